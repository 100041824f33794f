/- expr: the statements on texts: ExprPrints, ExprParses, ExprBack, ExprForth, walked. -/
import Derived.Test.YtneholfghffpfaaExLv
import Derived.Test.YtneholfghffpfaaExOp
namespace Go.Proofs.Ytneholfghffpfaa
open Go.RowKit
set_option linter.unusedVariables false
/-- No deeper than it is. -/
theorem trAt_to : ∀ {ok : Nat → Prop} {w : World} {d k : Nat} {A : Option Addr} {t : Tr}, TrAt ok w d A t → depD k t → TrAt ok w k A t := by
  intro ok w d
  induction d with
  | zero => intro k A t h hk; exact h.le (Nat.zero_le _)
  | succ d ih =>
    intro k A t h hk
    cases k with
    | zero => exact ⟨h.1, by have h2 : t.kids = [] := hk; rw [h2]; rfl⟩
    | succ k =>
      refine ⟨h.1, fun hp => ?_⟩
      obtain ⟨b, off, e, ho, hlt, hc⟩ := h.2 hp
      refine ⟨b, off, e, ho, hlt, fun j x hj => ?_⟩
      obtain ⟨A', c', q0, q1, q2, q3, hkid⟩ := hc j x hj
      exact ⟨A', c', q0, q1, q2, q3, ih hkid (hk x (List.mem_of_getElem? hj))⟩
theorem flat_congr (f g : Tr → List UInt8) (L : List Tr) (h : ∀ k ∈ L, f k = g k) : L.flatMap f = L.flatMap g := by
  induction L with
  | nil => rfl
  | cons x L ih => rw [List.flatMap_cons, List.flatMap_cons, h x List.mem_cons_self, ih (fun k hk => h k (List.mem_cons_of_mem _ hk))]
theorem textD_more : ∀ {d : Nat} {t : Tr}, depD d t → textD (d + 1) t = textD d t := by
  intro d
  induction d with
  | zero =>
    intro t h
    have h2 : t.kids = [] := h
    show ownL t ++ t.kids.flatMap (textD 0) = ownL t
    rw [h2]
    simp
  | succ d ih =>
    intro t h
    show ownL t ++ t.kids.flatMap (textD (d + 1)) = ownL t ++ t.kids.flatMap (textD d)
    rw [flat_congr _ _ t.kids (fun k hk => ih (h k hk))]
theorem textD_le2 {d e : Nat} {t : Tr} (h : depD d t) (hle : d ≤ e) : textD e t = textD d t := by
  induction hle with
  | refl => rfl
  | step hl ih => rw [textD_more (depD_le h hl), ih]
theorem partsB_dep : ∀ (m : Nat) (t : Tr), partsB (m + 1) t = true → depD m t := by
  intro m
  induction m with
  | zero =>
    intro t h
    have h2 : (partB t && t.kids.all (partsB 0)) = true := h
    rw [Bool.and_eq_true, List.all_eq_true] at h2
    exact List.eq_nil_iff_forall_not_mem.2 fun x hx => by have := h2.2 x hx; cases this
  | succ m ih =>
    intro t h k hk
    have h2 : (partB t && t.kids.all (partsB (m + 1))) = true := h
    rw [Bool.and_eq_true, List.all_eq_true] at h2
    exact ih k (h2.2 k hk)
/-- What was printed is parsed. -/
theorem parse_text {d : Nat} {t : Tr} (hd : depD d t) (hle : d ≤ 99) (h : checkG t = 0) : parseG (textB d t) = (t, 0) := by
  obtain ⟨hp, hz⟩ := checkG_ok h
  have h5 : depD 5 t := partsB_dep 5 t hp
  have h6 : depD 6 t := depD_more h5
  have hz6 := size_small h6 (by decide) hz
  have htx : textD d t = textD 6 t := by
    rcases Nat.le_total d 6 with hc | hc
    · exact (textD_le2 hd hc).symm
    · exact textD_le2 h6 hc
  have hr : Rest (textB d t) 0 (textD 6 t ++ []) := ⟨by omega, by omega, by unfold textB; rw [htx]; simp⟩
  obtain ⟨e, _⟩ := partG_enc (textB d t) 6 t 0 0 [] hp (by omega) (by omega) hr
  have hs : ((textB d t).size : Int) = 0 + ((textD 6 t).length : Int) := by
    have : (textB d t).size = (textD d t).length := rfl
    rw [this, htx]; omega
  unfold parseG
  rw [e]
  simp only
  rw [if_neg (by simp), if_pos ⟨hs.symm, h⟩]
/-- What was parsed is printed to the same text. -/
theorem text_parse {s : ByteArray} {t : Tr} (h : parseG s = (t, 0)) (ht : parseG s ≠ (trZ, 0) ∨ True) : checkG t = 0 ∧ textD 6 t = s.data.toList ∧ (partG s 6 0 0).2.2.2 = 0 ∧ depD 6 t := by
  unfold parseG at h
  by_cases c : (partG s 6 0 0).2.2.2 = 0
  · rw [if_neg (by simpa using c)] at h
    obtain ⟨sp, _, _, hd⟩ := partG_ok s 6 0 0 (by omega) (by omega) (by omega) c
    by_cases c2 : (partG s 6 0 0).2.1 = s.size ∧ checkG (partG s 6 0 0).1 = 0
    · rw [if_pos c2] at h
      have h1 : (partG s 6 0 0).1 = t := congrArg Prod.fst h
      rw [h1] at sp c2 hd
      refine ⟨c2.2, ?_, c, hd⟩
      obtain ⟨_, _, _, h4⟩ := sp
      rw [c2.1] at h4
      have : s.data.toList.drop (s.size : Int).toNat = [] := by simp
      rw [this] at h4
      simpa using h4.symm
    · rw [if_neg c2] at h
      have := congrArg Prod.snd h
      cases this
  · rw [if_pos c] at h
    exact absurd (congrArg Prod.snd h) c
theorem ownL_ne (t : Tr) : 0 < (ownL t).length := by unfold ownL; simp
theorem text_ne (d : Nat) (t : Tr) : 0 < (textD d t).length := by
  have := ownL_ne t
  cases d with
  | zero => exact this
  | succ d => show 0 < (ownL t ++ _).length; rw [List.length_append]; omega
/-- With a byte less. -/
theorem parse_less {s : ByteArray} {t : Tr} (h : parseG s = (t, 0)) : parseG (s.extract 0 (s.size - 1)) = (trZ, 2) := by
  obtain ⟨hc, htx, _, hd6⟩ := text_parse h (.inr trivial)
  obtain ⟨hp, hz⟩ := checkG_ok hc
  have hz6 := size_small hd6 (by decide) hz
  have hn := text_ne 6 t
  have hs : s.size = (textD 6 t).length := by rw [htx]; rfl
  have hcut : Cut (s.extract 0 (s.size - 1)) 0 (textD 6 t ++ []) := by
    refine ⟨by omega, by omega, s.data.toList.drop (s.size - 1), ?_, ?_⟩
    · intro e
      have := congrArg List.length e
      simp at this
      omega
    · rw [htx]
      show ((s.extract 0 (s.size - 1)).data.toList.drop 0) ++ _ = _
      rw [extract_list]
      simp only [List.drop_zero, Nat.sub_zero, List.append_nil]
      exact List.take_append_drop _ _
  rcases partG_cut (s.extract 0 (s.size - 1)) 6 t 0 0 [] hp (by omega) (by omega) hcut with ⟨_, hx⟩ | hx
  · exact absurd hx (fun hx => hx.not_nil)
  · unfold parseG
    rw [hx, if_pos (by decide)]
/-- With a byte more. -/
theorem parse_more {s : ByteArray} {t : Tr} (b : UInt8) (h : parseG s = (t, 0)) : parseG (s ++ ⟨#[b]⟩) = (trZ, 3) := by
  obtain ⟨hc, htx, _, hd6⟩ := text_parse h (.inr trivial)
  obtain ⟨hp, hz⟩ := checkG_ok hc
  have hz6 := size_small hd6 (by decide) hz
  have hs : s.size = (textD 6 t).length := by rw [htx]; rfl
  have hr : Rest (s ++ ⟨#[b]⟩) 0 (textD 6 t ++ [b]) := ⟨by omega, by omega, by rw [htx]; simp⟩
  obtain ⟨e, _⟩ := partG_enc (s ++ ⟨#[b]⟩) 6 t 0 0 [b] hp (by omega) (by omega) hr
  have hsz : (s ++ (⟨#[b]⟩ : ByteArray)).size = s.size + 1 := by rw [ByteArray.size_append]; rfl
  unfold parseG
  rw [e]
  simp only
  rw [if_neg (by simp), if_neg (fun x => by have h1 := x.1; rw [hsz] at h1; omega)]
theorem printG_ok {d : Nat} {t : Tr} (h : checkG t = 0) : printG d t = (textB d t, 0) := by unfold printG; rw [if_pos h]
theorem printG_bad {d : Nat} {t : Tr} (h : ¬ checkG t = 0) : printG d t = (⟨#[]⟩, 1) := by unfold printG; rw [if_neg h]
theorem small_dep {t : Tr} (h : smallB t = true) : depD 19 t := by
  unfold smallB at h
  rw [Bool.and_eq_true, decide_eq_true_eq, decide_eq_true_eq] at h
  exact depD_small (by omega) (by decide)
set_option maxHeartbeats 2000000 in
set_option maxRecDepth 100000 in
theorem exprPrints_walk (t : Tr) (A : Option Addr) (c n : Nat) (W : World) (hT : TrAt (fun _ => True) W n A t) : Calls Try.prog 4 #[exV t A c] W (Yes W) := by
  have cs := fun w (h : TrAt (fun _ => True) w n A t) => small6_c (fun _ => True) n t A c w h
  have cl := fun w => live6_c w
  have HB := Lib.hid (Boxed.start W t A c)
  have HT := Lib.hid hT
  clear hT
  obtain ⟨x0, x1, x2, x3⟩ := HB.out.cells
  cases hs : smallB t with
  | false =>
    rw [hs] at cs
    unfold exV exC Yes at *
    go_enter Try.func4, Try.ntmps4
    go_wp2_with fail
    with_reducible refine (cs _ (HT.out.below HB.out.bel)).mono ?_
    rintro en w1 ⟨rfl, hb1⟩
    have H1 := Lib.hid (HB.out.later hb1)
    clear hb1 x0 x1 x2 x3 cs HB
    go_wp2_with fail
    with_reducible refine (cl _).mono ?_
    rintro en w2 ⟨rfl, hb2⟩
    go_wp2_with fail
    go_ret
    exact ⟨rfl, (H1.out.later hb2).bel⟩
  | true =>
    rw [hs] at cs
    have hd := small_dep hs
    have cp := fun w (h : TrAt (fun _ => True) w n A t) => print_c (fun _ => True) 19 t A c w (by decide) (trAt_to h hd)
    have cr := fun w (h : TrAt (fun _ => True) w n A t) => rprint_c (fun _ => True) 19 t A c w (by decide) (trAt_to h hd)
    generalize (printG 19 t).1 = st at *
    generalize (printG 19 t).2 = er at *
    clear hs hd
    unfold exV exC Yes at *
    go_enter Try.func4, Try.ntmps4
    go_wp2_with fail
    with_reducible refine (cs _ (HT.out.below HB.out.bel)).mono ?_
    rintro en w1 ⟨rfl, hb1⟩
    have H1 := Lib.hid (HB.out.later hb1)
    clear hb1 x0 x1 x2 x3 cs HB
    obtain ⟨x0, x1, x2, x3⟩ := H1.out.cells
    go_wp2_with fail
    with_reducible refine (cp _ (HT.out.below H1.out.bel)).mono ?_
    rintro en w2 ⟨rfl, hb2⟩
    have H2 := Lib.hid (H1.out.later hb2)
    clear hb2 x0 x1 x2 x3 cp H1
    obtain ⟨x0, x1, x2, x3⟩ := H2.out.cells
    go_wp2_with fail
    with_reducible refine (cr _ (HT.out.below H2.out.bel)).mono ?_
    rintro en w3 ⟨rfl, hb3⟩
    have H3 := Lib.hid (H2.out.later hb3)
    clear hb3 x0 x1 x2 x3 cr H2
    go_wp2_with fail
    with_reducible refine (cl _).mono ?_
    rintro en w4 ⟨rfl, hb4⟩
    go_wp2_with fail
    go_ret
    exact ⟨rfl, (H3.out.later hb4).bel⟩
def PsPost (w : World) (t : Tr) (e : Int) (en : Ending) (w' : World) : Prop :=
  ∃ A c, en = .returned (.tuple #[.agg #[.int .i64 t.op, .string t.name, .string t.value, .slice A t.kids.length c], .int .i64 e]) ∧ TrAt (fun _ => True) w' 6 A t ∧ Below w.heap.size w w'
theorem px_c {s : ByteArray} {t : Tr} {e : Int} (hs : s.size ≤ 1152921504606846976) (h : parseG s = (t, e)) (w : World) : Calls Try.prog 19 #[.string s] w (PsPost w t e) := by
  have := parse_c s w hs
  rw [h] at this
  exact this.mono fun en w' ⟨A, c, h1, h2, h3⟩ => ⟨A, c, h1, h2.mono (fun _ _ _ => trivial), h3⟩
theorem rpx_c {s : ByteArray} {t : Tr} {e : Int} (hs : s.size ≤ 1152921504606846976) (h : parseG s = (t, e)) (w : World) : Calls Try.prog 20 #[.string s] w (PsPost w t e) := by
  have := rparse_c s w hs
  rw [h] at this
  exact this.mono fun en w' ⟨A, c, h1, h2, h3⟩ => ⟨A, c, h1, h2.mono (fun _ _ _ => trivial), h3⟩
theorem sx_c (d : Nat) (hd : d ≤ 59) (t : Tr) (A B : Option Addr) (c e : Nat) (w : World) (h1 : TrAt (fun _ => True) w d A t) (h2 : TrAt (fun _ => True) w d B t) :
    Calls Try.prog 21 #[.agg #[.int .i64 t.op, .string t.name, .string t.value, .slice A t.kids.length c], .agg #[.int .i64 t.op, .string t.name, .string t.value, .slice B t.kids.length e]] w (Good w (.bool true)) := rSame_c (fun _ => True) d t A B c e w hd h1 h2
theorem Box.xc {w : World} {b : Nat} {t : Tr} {A : Option Addr} {c : Nat} (h : Box w b 24 #[.int .i64 t.op, .string t.name, .string t.value, .slice A t.kids.length c]) :
    w.cell? ⟨b, 0, none⟩ = some (.int .i64 t.op) ∧ w.cell? ⟨b, 1, none⟩ = some (.string t.name) ∧ w.cell? ⟨b, 2, none⟩ = some (.string t.value) ∧ w.cell? ⟨b, 3, none⟩ = some (.slice A t.kids.length c) := ⟨h.cell 0, h.cell 1, h.cell 2, h.cell 3⟩
set_option maxHeartbeats 2000000 in
set_option maxRecDepth 100000 in
theorem exprParses_walk (s : ByteArray) (W : World) (hs : s.size ≤ 140737488351232) : Calls Try.prog 5 #[.string s] W (Yes W) := by
  obtain ⟨⟨t, e⟩, hp⟩ : ∃ r, parseG s = r := ⟨_, rfl⟩
  have c1 := fun w => px_c (by omega) hp w
  have c2 := fun w => rpx_c (by omega) hp w
  have cs := fun A B c e w h1 h2 => sx_c 6 (by decide) t A B c e w h1 h2
  have cl := fun w => live6_c w
  clear hp
  unfold Yes at *
  go_enter Try.func5, Try.ntmps5
  go_wp2_with fail
  with_reducible refine (c1 _).mono ?_
  rintro en w1 ⟨A1, d1, rfl, hT1, hb1⟩
  have HA := Lib.hid ((Below.refl w1.heap.size w1).alloc (Nat.le_refl _) (.cells #[.int .i64 t.op, .string t.name, .string t.value, .slice A1 t.kids.length d1] 24))
  have HX := Lib.hid (Box.new w1 24 #[.int .i64 t.op, .string t.name, .string t.value, .slice A1 t.kids.length d1])
  have HT := Lib.hid (hT1.below HA.out)
  have HB := Lib.hid (bjoin hb1 HA.out rfl rfl)
  have hkl := hT1.node.kids
  clear hT1 hb1 HA c1
  go_wp2_with fail
  with_reducible refine (c2 _).mono ?_
  rintro en w2 ⟨A2, d2, rfl, hT2, hb2⟩
  have HA := Lib.hid ((Below.refl w2.heap.size w2).alloc (Nat.le_refl _) (.cells #[.int .i64 t.op, .string t.name, .string t.value, .slice A2 t.kids.length d2] 24))
  have HX2 := Lib.hid ((HX.out.later hb2).later HA.out)
  have HY := Lib.hid (Box.new w2 24 #[.int .i64 t.op, .string t.name, .string t.value, .slice A2 t.kids.length d2])
  have HT1 := Lib.hid ((HT.out.below hb2).below HA.out)
  have HT2 := Lib.hid (hT2.below HA.out)
  have HB2 := Lib.hid (bjoin (bjoin HB.out hb2 rfl rfl) HA.out rfl rfl)
  clear hT2 hb2 HA c2 HX HT HB
  obtain ⟨x0, x1, x2, x3⟩ := HX2.out.xc
  obtain ⟨y0, y1, y2, y3⟩ := HY.out.xc
  go_wp2_with fail
  with_reducible refine (cs _ _ _ _ _ HT1.out HT2.out).mono ?_
  rintro en w3 ⟨rfl, hb3⟩
  have HB3 := Lib.hid (bjoin HB2.out hb3 rfl rfl)
  clear hb3 cs x0 x1 x2 x3 y0 y1 y2 y3 HX2 HY HT1 HT2 HB2
  go_wp2_with fail
  with_reducible refine (cl _).mono ?_
  rintro en w4 ⟨rfl, hb4⟩
  go_wp2_with fail
  go_ret
  exact ⟨rfl, bjoin HB3.out hb4 rfl rfl⟩
set_option maxHeartbeats 2000000 in
set_option maxRecDepth 100000 in
theorem exprBack_walk (t : Tr) (A : Option Addr) (c n : Nat) (W : World) (hT : TrAt (fun _ => True) W n A t) : Calls Try.prog 6 #[exV t A c] W (Yes W) := by
  have cs := fun w (h : TrAt (fun _ => True) w n A t) => small6_c (fun _ => True) n t A c w h
  have cl := fun w => live6_c w
  have HB := Lib.hid (Boxed.start W t A c)
  have HT := Lib.hid hT
  clear hT
  obtain ⟨x0, x1, x2, x3⟩ := HB.out.cells
  cases hs : smallB t with
  | false =>
    rw [hs] at cs
    unfold exV exC Yes at *
    go_enter Try.func6, Try.ntmps6
    go_wp2_with fail
    with_reducible refine (cs _ (HT.out.below HB.out.bel)).mono ?_
    rintro en w1 ⟨rfl, hb1⟩
    have H1 := Lib.hid (HB.out.later hb1)
    clear hb1 x0 x1 x2 x3 cs HB
    go_wp2_with fail
    with_reducible refine (cl _).mono ?_
    rintro en w2 ⟨rfl, hb2⟩
    go_wp2_with fail
    go_ret
    exact ⟨rfl, (H1.out.later hb2).bel⟩
  | true =>
    rw [hs] at cs
    have hd := small_dep hs
    have cp := fun w (h : TrAt (fun _ => True) w n A t) => print_c (fun _ => True) 19 t A c w (by decide) (trAt_to h hd)
    by_cases hc : checkG t = 0
    · rw [printG_ok hc] at cp
      have hpt := parse_text hd (by decide) hc
      obtain ⟨hp, hz⟩ := checkG_ok hc
      have hsz := textB_size 19 6 t hp
      have hz2 := size_small hd (by decide) hz
      have c1 := fun w => px_c (by omega) hpt w
      have csm := fun B c e w (h1 : TrAt (fun _ => True) w n A t) (h2 : TrAt (fun _ => True) w 6 B t) => sx_c 19 (by decide) t A B c e w (trAt_to h1 hd) (h2.le (by decide))
      clear hpt hp hz hsz hz2 hs hc
      generalize textB 19 t = s at *
      unfold exV exC Yes at *
      go_enter Try.func6, Try.ntmps6
      go_wp2_with fail
      with_reducible refine (cs _ (HT.out.below HB.out.bel)).mono ?_
      rintro en w1 ⟨rfl, hb1⟩
      have H1 := Lib.hid (HB.out.later hb1)
      clear hb1 x0 x1 x2 x3 cs HB
      obtain ⟨x0, x1, x2, x3⟩ := H1.out.cells
      go_wp2_with fail
      with_reducible refine (cp _ (HT.out.below H1.out.bel)).mono ?_
      rintro en w2 ⟨rfl, hb2⟩
      have H2 := Lib.hid (H1.out.later hb2)
      clear hb2 x0 x1 x2 x3 cp H1
      go_wp2_with fail
      with_reducible refine (c1 _).mono ?_
      rintro en w3 ⟨A3, d3, rfl, hT3, hb3⟩
      have HA := Lib.hid ((Below.refl w3.heap.size w3).alloc (Nat.le_refl _) (.cells #[.int .i64 t.op, .string t.name, .string t.value, .slice A3 t.kids.length d3] 24))
      have H3 := Lib.hid ((H2.out.later hb3).later HA.out)
      have HY := Lib.hid (Box.new w3 24 #[.int .i64 t.op, .string t.name, .string t.value, .slice A3 t.kids.length d3])
      have HT3 := Lib.hid (hT3.below HA.out)
      clear hT3 hb3 HA c1 H2
      obtain ⟨x0, x1, x2, x3⟩ := H3.out.cells
      obtain ⟨y0, y1, y2, y3⟩ := HY.out.xc
      go_wp2_with fail
      with_reducible refine (csm _ _ _ _ (HT.out.below H3.out.bel) HT3.out).mono ?_
      rintro en w4 ⟨rfl, hb4⟩
      have H4 := Lib.hid (H3.out.later hb4)
      clear hb4 csm x0 x1 x2 x3 y0 y1 y2 y3 HY HT3 H3
      go_wp2_with fail
      with_reducible refine (cl _).mono ?_
      rintro en w5 ⟨rfl, hb5⟩
      go_wp2_with fail
      go_ret
      exact ⟨rfl, (H4.out.later hb5).bel⟩
    · rw [printG_bad hc] at cp
      clear hs hc
      unfold exV exC Yes at *
      go_enter Try.func6, Try.ntmps6
      go_wp2_with fail
      with_reducible refine (cs _ (HT.out.below HB.out.bel)).mono ?_
      rintro en w1 ⟨rfl, hb1⟩
      have H1 := Lib.hid (HB.out.later hb1)
      clear hb1 x0 x1 x2 x3 cs HB
      obtain ⟨x0, x1, x2, x3⟩ := H1.out.cells
      go_wp2_with fail
      with_reducible refine (cp _ (HT.out.below H1.out.bel)).mono ?_
      rintro en w2 ⟨rfl, hb2⟩
      have H2 := Lib.hid (H1.out.later hb2)
      clear hb2 x0 x1 x2 x3 cp H1
      go_wp2_with fail
      with_reducible refine (cl _).mono ?_
      rintro en w3 ⟨rfl, hb3⟩
      go_wp2_with fail
      go_ret
      exact ⟨rfl, (H2.out.later hb3).bel⟩
theorem byte_text (w : World) (x : Int) (g : Nat) (hg : w.heap.size = g) (h0 : 0 ≤ x) (h1 : x ≤ 255) :
    (convert 36 9 (.slice (some ⟨g, 0, none⟩) 1 1)).run Try.prog (w.alloc (.cells #[.int .u8 x] 5)) = .ok (.string (oneB x)) (w.alloc (.cells #[.int .u8 x] 5)) := one_text w x g hg h0 h1
theorem parse_bad {s : ByteArray} {t : Tr} {e : Int} (h : parseG s = (t, e)) (he : e ≠ 0) : t = trZ := by
  unfold parseG at h
  split at h
  · exact (congrArg Prod.fst h).symm
  · split at h
    · exact absurd (congrArg Prod.snd h).symm he
    · exact (congrArg Prod.fst h).symm
set_option maxHeartbeats 2000000 in
set_option maxRecDepth 100000 in
theorem exprForth_walk (s : ByteArray) (b : Int) (W : World) (hs : s.size ≤ 140737488351232) (hb : (Lit.int .u8 b).wf = true) : Calls Try.prog 7 #[.string s, .int .u8 b] W (Yes W) := by
  obtain ⟨⟨t, e⟩, hp⟩ : ∃ r, parseG s = r := ⟨_, rfl⟩
  have c1 := fun w => px_c (by omega) hp w
  have cl := fun w => live6_c w
  obtain ⟨hb0, hb1⟩ : 0 ≤ b ∧ b ≤ 255 := by
    simp [Lit.wf] at hb
    have h1 : IntKind.u8.min = 0 := by decide
    have h2 : IntKind.u8.max = 255 := by decide
    omega
  by_cases he : e = 0
  · subst he
    obtain ⟨hc, htx, _, _⟩ := text_parse hp (.inr trivial)
    have hts : textB 6 t = s := by unfold textB; rw [htx]
    have hpr := printG_ok (d := 6) hc
    rw [hts] at hpr
    have cp := fun A c w (h : TrAt (fun _ => True) w 6 A t) => print_c (fun _ => True) 6 t A c w (by decide) h
    rw [hpr] at cp
    have hpos : 0 < s.size := by have h1 := text_ne 6 t; rw [htx] at h1; exact h1
    have hless := parse_less hp
    have hmore := parse_more (byteB b) hp
    have c2 := fun w => px_c (s := s.extract 0 (s.size - 1)) (by simp; omega) hless w
    have c3 := fun w => px_c (s := s ++ oneB b) (by rw [ByteArray.size_append]; have := oneB_size b; omega) hmore w
    have hcat := add_run (P := Try.prog) (Nat.le_refl s.size) (oneB_size b) (by omega)
    have hbt := fun w g hg => byte_text w b g hg hb0 hb1
    clear hless hmore hpr hts htx hc hp
    generalize oneB b = ob at *
    have h0 : trZ.op = 0 := rfl
    have h1 : trZ.kids.length = 0 := rfl
    unfold exV exC Yes at *
    unfold PsPost at *
    rw [h0, h1] at c2 c3
    clear h0 h1
    generalize trZ.name = nm at *
    generalize trZ.value = vl at *
    go_enter Try.func7, Try.ntmps7
    go_wp2_with fail
    with_reducible refine (c1 _).mono ?_
    rintro en w1 ⟨A1, d1, rfl, hT1, hbl1⟩
    have HA := Lib.hid ((Below.refl w1.heap.size w1).alloc (Nat.le_refl _) (.cells #[.int .i64 t.op, .string t.name, .string t.value, .slice A1 t.kids.length d1] 24))
    have HX := Lib.hid (Box.new w1 24 #[.int .i64 t.op, .string t.name, .string t.value, .slice A1 t.kids.length d1])
    have HT := Lib.hid (hT1.below HA.out)
    have HB := Lib.hid (bjoin hbl1 HA.out rfl rfl)
    have hkl := hT1.node.kids
    clear hT1 hbl1 HA c1
    go_wp2_with fail
    with_reducible refine (cp _ _ _ HT.out).mono ?_
    rintro en w2 ⟨rfl, hb2⟩
    have HB2 := Lib.hid (bjoin HB.out hb2 rfl rfl)
    clear hb2 cp HB HX HT
    go_wp2_with fail
    with_reducible refine (c2 _).mono ?_
    rintro en w3 ⟨A3, d3, rfl, _, hb3⟩
    have HA := Lib.hid ((Below.refl w3.heap.size w3).alloc (Nat.le_refl _) (.cells #[.int .i64 0, .string nm, .string vl, .slice A3 0 d3] 24))
    have HB3 := Lib.hid (bjoin (bjoin HB2.out hb3 rfl rfl) HA.out rfl rfl)
    have hb8 := hbt (w3.alloc (.cells #[.int .i64 0, .string nm, .string vl, .slice A3 0 d3] 24)) (w3.heap.size + 1) (by simp)
    have HB4 := Lib.hid (HB3.out.alloc (by have := HB3.out.size; omega) (.cells #[.int .u8 b] 5))
    clear hb3 HA c2 hbt HB2
    go_wp2_with fail
    with_reducible refine (c3 _).mono ?_
    rintro en w4 ⟨A4, d4, rfl, _, hb4⟩
    have HA := Lib.hid ((Below.refl w4.heap.size w4).alloc (Nat.le_refl _) (.cells #[.int .i64 0, .string nm, .string vl, .slice A4 0 d4] 24))
    have HB5 := Lib.hid (bjoin (bjoin HB4.out hb4 rfl rfl) HA.out rfl rfl)
    clear hb4 HA c3 HB3 HB4 hb8
    go_wp2_with fail
    with_reducible refine (cl _).mono ?_
    rintro en w5 ⟨rfl, hb5⟩
    go_wp2_with fail
    go_ret
    exact ⟨rfl, bjoin HB5.out hb5 rfl rfl⟩
  · have ht := parse_bad hp he
    subst ht
    have e1 : (e == 0) = false := by rw [beq_eq_false_iff_ne]; exact he
    have e2 : (e != 0) = true := by simpa using he
    clear he hp
    unfold Yes PsPost at *
    have h0 : trZ.op = 0 := rfl
    have h1 : trZ.kids.length = 0 := rfl
    rw [h0, h1] at c1
    generalize trZ.name = nm at *
    generalize trZ.value = vl at *
    go_enter Try.func7, Try.ntmps7
    go_wp2_with fail
    with_reducible refine (c1 _).mono ?_
    rintro en w1 ⟨A1, d1, rfl, _, hbl1⟩
    have HB := Lib.hid (bjoin hbl1 ((Below.refl w1.heap.size w1).alloc (Nat.le_refl _) (.cells #[.int .i64 0, .string nm, .string vl, .slice A1 0 d1] 24)) rfl rfl)
    clear hbl1 c1
    go_wp2_with fail
    with_reducible refine (cl _).mono ?_
    rintro en w2 ⟨rfl, hb2⟩
    go_wp2_with fail
    go_ret
    exact ⟨rfl, bjoin HB.out hb2 rfl rfl⟩
end Go.Proofs.Ytneholfghffpfaa
