/- expr: the document's text of a filter, Print; by contracts. -/
import Derived.Test.YtneholfghffpfaaExOf
import Derived.Test.YtneholfghffpfaaExChk
import Derived.Deep.DeepCutAuto
import Derived.Deep.CutBlock
import Derived.Deep.RegionHeld3
namespace Go.Proofs.Ytneholfghffpfaa
open Go.RowKit
set_option linter.unusedVariables false
theorem txS_later {W w w' : World} {b : Nat} {v0 v1 v2 v3 : Value} (h : w.cell? ⟨b, 0, none⟩ = some v0 ∧ w.cell? ⟨b, 1, none⟩ = some v1 ∧ w.cell? ⟨b, 2, none⟩ = some v2 ∧ w.cell? ⟨b, 3, none⟩ = some v3 ∧ b < w.heap.size ∧ W.heap.size ≤ w.heap.size ∧ Below W.heap.size W w) (hb : Below w.heap.size w w') :
    w'.cell? ⟨b, 0, none⟩ = some v0 ∧ w'.cell? ⟨b, 1, none⟩ = some v1 ∧ w'.cell? ⟨b, 2, none⟩ = some v2 ∧ w'.cell? ⟨b, 3, none⟩ = some v3 ∧ b < w'.heap.size ∧ W.heap.size ≤ w'.heap.size ∧ Below W.heap.size W w' := by
  obtain ⟨a0, a1, a2, a3, a4, a5, a6⟩ := h
  have hs := hb.size
  exact ⟨(hb.cell (p := ⟨b, 0, none⟩) a4).trans a0, (hb.cell (p := ⟨b, 1, none⟩) a4).trans a1, (hb.cell (p := ⟨b, 2, none⟩) a4).trans a2, (hb.cell (p := ⟨b, 3, none⟩) a4).trans a3, by omega, by omega, a6.trans (hb.mono a5)⟩
/-- How long a text is at most. -/
theorem ownL_len {t : Tr} (h : partB t = true) : (ownL t).length ≤ 2100 := by
  have hx : ∀ s : ByteArray, s.size ≤ 1000 → (txt s).length ≤ 1010 := fun s hs => by rw [txt_len]; have := putL_len (s.size : Int); omega
  unfold ownL
  rcases partB_forms h with ⟨a, _⟩ | ⟨a, _⟩ | ⟨a, _⟩ | ⟨a, _, b, _⟩ | ⟨a, _, b, c⟩ | ⟨a, _, _, c⟩
  · rw [a]; exact (by decide : (1 : Nat) ≤ 2100)
  · rw [if_pos a]; simp
  · rw [a]; exact (by decide : (1 : Nat) ≤ 2100)
  · rw [if_neg (by omega), if_pos a]; have := hx _ b; simp only [List.length_cons]; omega
  · rw [if_neg (by omega), if_neg (by omega), if_pos a]; have := hx _ b; have := hx _ c; simp only [List.length_cons, List.length_append]; omega
  · rw [if_neg (by omega), if_neg (by omega), if_neg (by omega), if_pos a]; have := hx _ c; simp only [List.length_cons]; omega
theorem flat_len (f : Tr → List UInt8) (z : Tr → Nat) (L : List Tr) (h : ∀ k ∈ L, (f k).length ≤ 2100 * z k) : (L.flatMap f).length ≤ 2100 * (L.map z).sum := by
  induction L with
  | nil => simp
  | cons x L ih =>
    have h1 := h x List.mem_cons_self
    have h2 := ih (fun k hk => h k (List.mem_cons_of_mem _ hk))
    rw [List.flatMap_cons, List.length_append, List.map_cons, List.sum_cons]
    omega
theorem textD_len : ∀ (d m : Nat) (t : Tr), partsB m t = true → (textD d t).length ≤ 2100 * szD d t := by
  intro d
  induction d with
  | zero =>
    intro m t h
    cases m with
    | zero => cases h
    | succ m =>
      have h2 : (partB t && t.kids.all (partsB m)) = true := h
      rw [Bool.and_eq_true] at h2
      exact ownL_len h2.1
  | succ d ih =>
    intro m t h
    cases m with
    | zero => cases h
    | succ m =>
      have h2 : (partB t && t.kids.all (partsB m)) = true := h
      rw [Bool.and_eq_true, List.all_eq_true] at h2
      have h3 := flat_len (textD d) (szD d) t.kids (fun k hk => ih m k (h2.2 k hk))
      have h4 := ownL_len h2.1
      show (ownL t ++ t.kids.flatMap (textD d)).length ≤ 2100 * (1 + (t.kids.map (szD d)).sum)
      rw [List.length_append]
      omega
theorem sum_mem (z : Tr → Nat) (L : List Tr) (k : Tr) (hk : k ∈ L) : z k ≤ (L.map z).sum := by
  induction L with
  | nil => cases hk
  | cons x L ih =>
    rw [List.map_cons, List.sum_cons]
    rcases List.mem_cons.1 hk with rfl | hk
    · omega
    · have := ih hk; omega
/-- The text of a filter, d levels deep. -/
def textB (d : Nat) (t : Tr) : ByteArray := ⟨(textD d t).toArray⟩
/-- Its text up to the k-th kid. -/
def textK (d : Nat) (t : Tr) (k : Nat) : ByteArray := ⟨(ownL t ++ (t.kids.take k).flatMap (textD d)).toArray⟩
theorem textK_zero (d : Nat) (t : Tr) : textK d t 0 = ownB t := by unfold textK ownB; simp
theorem textK_snoc (d : Nat) (t : Tr) (k : Nat) (hk : k < t.kids.length) : textK d t k ++ textB d t.kids[k] = textK d t (k + 1) := by
  unfold textK textB
  have e : t.kids.take (k + 1) = t.kids.take k ++ [t.kids[k]] := by rw [List.take_add_one, List.getElem?_eq_getElem hk]; rfl
  rw [e, List.flatMap_append]
  apply ByteArray.ext
  simp
theorem textK_all (d : Nat) (t : Tr) (k : Nat) (hk : t.kids.length ≤ k) : textK d t k = textB (d + 1) t := by
  unfold textK textB
  rw [List.take_of_length_le hk]
  rfl
theorem textK_end (d : Nat) (t : Tr) (k : Nat) (h0 : d = 0 → t.kids.length = 0) (hk : t.kids.length ≤ k) : textK (d - 1) t k = textB d t := by
  cases d with
  | zero =>
    have h := List.eq_nil_of_length_eq_zero (h0 rfl)
    unfold textK textB textD
    rw [h]
    simp
  | succ d => exact textK_all d t k hk
theorem textK_size (d m : Nat) (t : Tr) (k : Nat) (h : partsB (m + 1) t = true) : (textK d t k).size ≤ 2100 * szD (d + 1) t := by
  have h2 : (partB t && t.kids.all (partsB m)) = true := h
  rw [Bool.and_eq_true, List.all_eq_true] at h2
  have h3 := flat_len (textD d) (szD d) (t.kids.take k) (fun x hx => textD_len d m x (h2.2 x (List.mem_of_mem_take hx)))
  have h4 := ownL_len h2.1
  have h5 : ((t.kids.take k).map (szD d)).sum ≤ (t.kids.map (szD d)).sum := by
    conv => rhs; rw [← List.take_append_drop k t.kids, List.map_append, List.sum_append]
    omega
  show (ownL t ++ (t.kids.take k).flatMap (textD d)).length ≤ 2100 * (1 + (t.kids.map (szD d)).sum)
  rw [List.length_append]
  omega
theorem textB_size (d m : Nat) (t : Tr) (h : partsB m t = true) : (textB d t).size ≤ 2100 * szD d t := textD_len d m t h
set_option maxHeartbeats 4000000 in
set_option maxRecDepth 100000 in
theorem rtext_in (ok : Nat → Prop) (d m : Nat) (t : Tr) (A : Option Addr) (c : Nat) (W : World) (hT : TrAt ok W d A t) (hP : partsB (m + 1) t = true) (hz : szD d t ≤ 30)
    (ih : ∀ d', d = d' + 1 → ∀ t A c W, TrAt ok W d' A t → partsB m t = true → szD d' t ≤ 30 → Calls Try.prog 33 #[exV t A c] W (Good W (.string (textB d' t)))) :
    Calls Try.prog 33 #[exV t A c] W (Good W (.string (textB d t))) := by
  have hkl : t.kids.length ≤ 30 := by
    cases d with
    | zero => have := hT.2; omega
    | succ d => exact (kids_few (f := d) (n := 0) (by omega) (by omega)).1
  have hp2 : (partB t && t.kids.all (partsB m)) = true := hP
  rw [Bool.and_eq_true, List.all_eq_true] at hp2
  have hop : 0 ≤ t.op ∧ t.op ≤ 7 := by rcases partB_forms hp2.1 with ⟨a, _⟩ | ⟨a, _⟩ | ⟨a, _⟩ | ⟨a, _⟩ | ⟨a, _⟩ | ⟨a, _⟩ <;> omega
  have HF := Lib.hid (own_forms hp2.1)
  have HB := Lib.hid (Boxed.start W t A c)
  have HT := Lib.hid hT
  have hof : ∀ x w, 0 ≤ x → x ≤ 255 → Calls Try.prog 43 #[.int .i64 x, .int .i64 1] w (Good w (.string (oneB x))) := fun x w h0 h1 => by
    have := rof_c x 1 w (by omega)
    rw [fix1 h0 h1] at this
    exact this
  have ho1 := fun w => hof t.op w hop.1 (by omega)
  have ho2 := fun w => hof t.kids.length w (by omega) (by omega)
  have ht := fun s w hs => rtext_c s w hs
  have hc : ∀ w, Boxed W t A c w → _ := fun w h => h.cells
  have hcat1 := add_run (P := Try.prog) (oneB_size t.op) (oneB_size t.kids.length) (by decide)
  have hz1 := oneB_size t.op
  have HPK := Lib.hid hp2.2
  have HPP := Lib.hid hP
  have HD0 : Hid (d = 0 → t.kids.length = 0) := Lib.hid (fun e => by subst e; exact hT.2)
  clear hof hP hp2 hT
  obtain ⟨c0, c1, c2, c3⟩ := HB.out.cells
  unfold exV at *
  unfold exC at c0 c1 c2 c3 HB
  unfold exC
  go_enter Try.func33, Try.ntmps33
  go_wp2_with fail
  with_reducible refine (ho1 _).mono ?_
  rintro en w1 ⟨rfl, hb1⟩
  have HB1 := Lib.hid (HB.out.later hb1)
  clear hb1 c0 c1 c2 c3 HB ho1
  obtain ⟨c0, c1, c2, c3⟩ := HB1.out.cells
  generalize oneB t.op = ob at *
  go_upto_block 0 with fail
  go_cut [3] (fun sx w => sx = .string (ownB t) ∧ Boxed W t A c w)
  case first =>
    have hlt := HB1.out.box.lt
    have hbl := HB1.out.bel
    have hws := HB1.out.bel.size
    generalize ownB t = R at *
    generalize oneB (t.kids.length : Int) = kb at *
    rcases HF.out with ⟨q, hR⟩ | ⟨q, hR⟩ | ⟨q, z1, hR⟩ | ⟨q, z1, z2, hR⟩ | ⟨q, z2, hR⟩
    · have HR := Lib.hid hR
      clear hR
      rcases q with q | q
      · obtain ⟨b1, b2, b4, b5, b6, b7⟩ : (t.op == 1) = false ∧ (t.op == 2) = false ∧ (t.op == 4) = false ∧ (t.op == 5) = false ∧ (t.op == 6) = false ∧ (t.op == 7) = false := by rw [q]; exact ⟨rfl, rfl, rfl, rfl, rfl, rfl⟩
        clear q HF hop
        go_wp2_with fail
        go_meet
        exact ⟨congrArg Value.string HR.out.symm, HB1.out⟩
      · obtain ⟨b1, b2, b4, b5, b6, b7⟩ : (t.op == 1) = false ∧ (t.op == 2) = false ∧ (t.op == 4) = false ∧ (t.op == 5) = false ∧ (t.op == 6) = false ∧ (t.op == 7) = false := by rw [q]; exact ⟨rfl, rfl, rfl, rfl, rfl, rfl⟩
        clear q HF hop
        go_wp2_with fail
        go_meet
        exact ⟨congrArg Value.string HR.out.symm, HB1.out⟩
    · have HR := Lib.hid hR
      clear hR
      rcases q with q | q
      · obtain ⟨b1, b2, b4, b5, b6, b7⟩ : (t.op == 1) = true ∧ (t.op == 2) = false ∧ (t.op == 4) = false ∧ (t.op == 5) = false ∧ (t.op == 6) = false ∧ (t.op == 7) = false := by rw [q]; exact ⟨rfl, rfl, rfl, rfl, rfl, rfl⟩
        clear q HF hop
        go_wp2_with fail
        with_reducible refine (ho2 _).mono ?_
        rintro en w2 ⟨rfl, hb2⟩
        have HB2 := Lib.hid (HB1.out.later hb2)
        clear hb2
        go_wp2_with fail
        go_meet
        exact ⟨congrArg Value.string HR.out.symm, HB2.out⟩
      · obtain ⟨b1, b2, b4, b5, b6, b7⟩ : (t.op == 1) = false ∧ (t.op == 2) = true ∧ (t.op == 4) = false ∧ (t.op == 5) = false ∧ (t.op == 6) = false ∧ (t.op == 7) = false := by rw [q]; exact ⟨rfl, rfl, rfl, rfl, rfl, rfl⟩
        clear q HF hop
        go_wp2_with fail
        with_reducible refine (ho2 _).mono ?_
        rintro en w2 ⟨rfl, hb2⟩
        have HB2 := Lib.hid (HB1.out.later hb2)
        clear hb2
        go_wp2_with fail
        go_meet
        exact ⟨congrArg Value.string HR.out.symm, HB2.out⟩
    · have ht1 := fun w => ht t.name w (by omega)
      have hsz := textG_size t.name z1
      have hcat := add_run (P := Try.prog) hz1 hsz (by decide)
      have HR := Lib.hid hR
      obtain ⟨b1, b2, b4, b5, b6, b7⟩ : (t.op == 1) = false ∧ (t.op == 2) = false ∧ (t.op == 4) = true ∧ (t.op == 5) = false ∧ (t.op == 6) = false ∧ (t.op == 7) = false := by rw [q]; exact ⟨rfl, rfl, rfl, rfl, rfl, rfl⟩
      clear hR ht q HF hop
      generalize textG t.name = x at *
      go_wp2_with fail
      with_reducible refine (ht1 _).mono ?_
      rintro en w2 ⟨rfl, hb2⟩
      have HB2 := Lib.hid (HB1.out.later hb2)
      clear hb2
      go_wp2_with fail
      go_meet
      exact ⟨congrArg Value.string HR.out.symm, HB2.out⟩
    · have ht1 := fun w => ht t.name w (by omega)
      have ht2 := fun w => ht t.value w (by omega)
      have hsz := textG_size t.name z1
      have hsz2 := textG_size t.value z2
      have hcat := add_run (P := Try.prog) hz1 hsz (by decide)
      have hcat2 := add_run (P := Try.prog) (cat_le hz1 hsz) hsz2 (by decide)
      have HR := Lib.hid hR
      obtain ⟨b1, b2, b4, b5, b6, b7⟩ : (t.op == 1) = false ∧ (t.op == 2) = false ∧ (t.op == 4) = false ∧ (t.op == 5) = true ∧ (t.op == 6) = false ∧ (t.op == 7) = false := by rw [q]; exact ⟨rfl, rfl, rfl, rfl, rfl, rfl⟩
      clear hR ht q HF hop
      generalize textG t.name = x at *
      generalize textG t.value = y at *
      have hS := And.intro c0 (And.intro c1 (And.intro c2 (And.intro c3 (And.intro hlt (And.intro hws hbl)))))
      go_upto_region 9 with fail
      go_region_held3 (fun w => w.cell? ⟨W.heap.size, 0, none⟩ = some (.int .i64 t.op) ∧ w.cell? ⟨W.heap.size, 1, none⟩ = some (.string t.name) ∧ w.cell? ⟨W.heap.size, 2, none⟩ = some (.string t.value) ∧ w.cell? ⟨W.heap.size, 3, none⟩ = some (.slice A t.kids.length c) ∧ W.heap.size < w.heap.size ∧ W.heap.size ≤ w.heap.size ∧ Below W.heap.size W w)
        (first | exact txS_later hS ((Below.refl _ _).drew) | exact txS_later (by assumption) (by assumption))
        (first
          | ((with_reducible refine (ht1 _).mono ?_); rintro e w2 ⟨rfl, hb2⟩; have HB2 := Lib.hid (HB1.out.later (((Below.refl _ _).drew).trans (hb2.mono (Nat.le_refl _)))))
          | ((with_reducible refine (ht2 _).mono ?_); rintro e w3 ⟨rfl, hb3⟩; have HB3 := Lib.hid (HB2.out.later hb3)))
      all_goals go_wp2_with fail
      all_goals go_meet
      all_goals exact ⟨congrArg Value.string HR.out.symm, HB3.out⟩
    · have ht1 := fun w => ht t.value w (by omega)
      have hsz := textG_size t.value z2
      have hcat := add_run (P := Try.prog) hz1 hsz (by decide)
      have HR := Lib.hid hR
      clear hR ht
      generalize textG t.value = x at *
      rcases q with q | q
      · obtain ⟨b1, b2, b4, b5, b6, b7⟩ : (t.op == 1) = false ∧ (t.op == 2) = false ∧ (t.op == 4) = false ∧ (t.op == 5) = false ∧ (t.op == 6) = true ∧ (t.op == 7) = false := by rw [q]; exact ⟨rfl, rfl, rfl, rfl, rfl, rfl⟩
        clear q HF hop
        go_wp2_with fail
        with_reducible refine (ht1 _).mono ?_
        rintro en w2 ⟨rfl, hb2⟩
        have HB2 := Lib.hid (HB1.out.later hb2)
        clear hb2
        go_wp2_with fail
        go_meet
        exact ⟨congrArg Value.string HR.out.symm, HB2.out⟩
      · obtain ⟨b1, b2, b4, b5, b6, b7⟩ : (t.op == 1) = false ∧ (t.op == 2) = false ∧ (t.op == 4) = false ∧ (t.op == 5) = false ∧ (t.op == 6) = false ∧ (t.op == 7) = true := by rw [q]; exact ⟨rfl, rfl, rfl, rfl, rfl, rfl⟩
        clear q HF hop
        go_wp2_with fail
        with_reducible refine (ht1 _).mono ?_
        rintro en w2 ⟨rfl, hb2⟩
        have HB2 := Lib.hid (HB1.out.later hb2)
        clear hb2
        go_wp2_with fail
        go_meet
        exact ⟨congrArg Value.string HR.out.symm, HB2.out⟩
  case rest =>
    obtain ⟨rfl, hB⟩ := hcut
    have HB2 := Lib.hid hB
    have h0 : ownB t = textK (d - 1) t 0 := (textK_zero _ _).symm
    rw [h0]
    clear hB HB1 h0 c0 c1 c2 c3 HF ho2 ht hcat1 hz1
    go_wp2_with fail
    go_loopw [3, 4] (fun st i wr => ∃ k : Nat, i = .int .i64 k ∧ k ≤ t.kids.length ∧ st = .string (textK (d - 1) t k) ∧ Boxed W t A c wr) (fun _ i _ => t.kids.length - (intOf i).toNat)
    case atStart => exact ⟨0, rfl, Nat.zero_le _, rfl, HB2.out⟩
    case round =>
      obtain ⟨k, rfl, hkl2, rfl, hB⟩ := hrel
      obtain ⟨c0, c1, c2, c3⟩ := hc _ hB
      have HB3 := Lib.hid hB
      clear hB HB2
      by_cases hk : k < t.kids.length
      · obtain ⟨b, off, A', c', d', hd', rfl, ho, hlt', q0, q1, q2, q3, hkid⟩ := (HT.out.below HB3.out.bel).at_ hk
        subst hd'
        have hkc := fun w (hb : Below wr.heap.size wr w) => ih d' rfl t.kids[k] A' c' w (hkid.below hb) (HPK.out _ (List.getElem_mem hk)) (by have := sum_mem (szD d') t.kids _ (List.getElem_mem hk); have h9 : 1 + (t.kids.map (szD d')).sum ≤ 30 := hz; omega)
        unfold exC at hkc
        have hsn := textK_snoc d' t k hk
        have hs1 : (textK d' t k).size ≤ 63000 := by have h1 := textK_size d' m t k HPP.out; omega
        have hs2 : (textB d' t.kids[k]).size ≤ 63000 := by have h1 := textB_size d' m _ (HPK.out _ (List.getElem_mem hk)); have := sum_mem (szD d') t.kids _ (List.getElem_mem hk); have h9 : 1 + (t.kids.map (szD d')).sum ≤ 30 := hz; omega
        have hcat := add_run (P := Try.prog) hs1 hs2 (by decide)
        have HSN := Lib.hid hsn
        clear hsn hs1 hs2 ih
        simp only [Nat.add_sub_cancel] at *
        generalize textK d' t k = p1 at *
        generalize textB d' t.kids[k] = p2 at *
        go_wp2_with fail
        with_reducible refine (hkc _ (Below.refl _ _)).mono ?_
        rintro en w2 ⟨rfl, hb2⟩
        have HB4 := Lib.hid (HB3.out.later hb2)
        clear hb2 c0 c1 c2 c3 q0 q1 q2 q3 HB3 hkc
        go_wp2_with fail
        go_roundw
        case rel => exact ⟨k + 1, rfl, hk, congrArg Value.string HSN.out, HB4.out⟩
        case measure => simp [intOf]; omega
      · have HE := Lib.hid (textK_end d t k HD0.out (by omega))
        clear ih
        go_wp2_with fail
        go_ret
        exact ⟨congrArg (fun x => Ending.returned (.string x)) HE.out, HB3.out.bel⟩
theorem rxtext_c (ok : Nat → Prop) : ∀ (d m : Nat) (t : Tr) (A : Option Addr) (c : Nat) (W : World), TrAt ok W d A t → partsB m t = true → szD d t ≤ 30 → Calls Try.prog 33 #[exV t A c] W (Good W (.string (textB d t))) := by
  intro d
  induction d with
  | zero =>
    intro m t A c W hT hP hz
    cases m with
    | zero => cases hP
    | succ m => exact rtext_in ok 0 m t A c W hT hP hz (fun d' e => absurd e (by omega))
  | succ d ih =>
    intro m t A c W hT hP hz
    cases m with
    | zero => cases hP
    | succ m => exact rtext_in ok (d + 1) m t A c W hT hP hz (fun d' e t A c W h1 h2 h3 => by cases e; exact ih m t A c W h1 h2 h3)
end Go.Proofs.Ytneholfghffpfaa
