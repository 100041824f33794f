/- expr: Print, the program's and the document's, by contracts. -/
import Derived.Test.YtneholfghffpfaaExTt
import Derived.Test.YtneholfghffpfaaExMath
import Derived.Test.YtneholfghffpfaaBld
import Derived.Test.YtneholfghffpfaaExSz
namespace Go.Proofs.Ytneholfghffpfaa
open Go.RowKit
set_option linter.unusedVariables false
theorem BuilderAt.later {T e : TypeId} {B b : Nat} {p : Value} {bs : List Value} {w w' : World} (h : Lib.BuilderAt T e B b p bs w) (hb : Below w.heap.size w w') : Lib.BuilderAt T e B b p bs w' := by
  have hlt := h.lt
  obtain ⟨hB, v, hbk, hown, hne⟩ := h
  refine ⟨hB, v, (hb.block b hlt).trans hbk, ?_, hne⟩
  refine hown.kept (row := none) ⟨hb.os, hb.tape, hb.output, hb.size, fun k hk _ => hb.block k hk⟩ ?_
  cases v.ownBlock with
  | none => exact .inl rfl
  | some g => exact .inr (by simp)
theorem Bld.later {w w' : World} {B b : Nat} {l : List UInt8} (h : Bld w B b l) (hb : Below w.heap.size w w') : Bld w' B b l := by
  rcases h with h | h
  · exact .inl (BuilderAt.later h hb)
  · exact .inr (BuilderAt.later h hb)
theorem Bld.lt {w : World} {B b : Nat} {l : List UInt8} (h : Bld w B b l) : b < w.heap.size := by
  rcases h with h | h
  · exact h.lt
  · exact h.lt
theorem Keeps.trans {q : Nat} {W w w' : World} (h : Keeps q W w) (k : Keeps q w w') (hs : W.heap.size ≤ w.heap.size) : Keeps q W w' := fun i hi hq hn => by
  have e := h i hi hq hn
  exact (k i (by omega) hq (fun cur fr x => hn cur fr (e ▸ x))).trans e
theorem Keeps.of_below {q : Nat} {W w : World} (h : Below W.heap.size W w) : Keeps q W w := fun i hi _ _ => h.block i hi
/-- What a visit hands back. -/
def Wr (B q : Nat) (W : World) (l : List UInt8) (en : Ending) (w' : World) : Prop := en = .returned (.bool true) ∧ Bld w' B q l ∧ Below B W w' ∧ Keeps q W w'
structure PW (B q : Nat) (W : World) (t : Tr) (A : Option Addr) (c : Nat) (l : List UInt8) (w : World) : Prop where
  lt : q < W.heap.size
  le : B ≤ W.heap.size
  box : Box w W.heap.size 24 (exC t A c)
  bld : Bld w B q l
  bel : Below B W w
  keep : Keeps q W w
theorem PW.start {B q : Nat} {W : World} {l : List UInt8} (t : Tr) (A : Option Addr) (c : Nat) (hB : B ≤ W.heap.size) (h : Bld W B q l) : PW B q W t A c l (W.alloc (.cells (exC t A c) 24)) :=
  ⟨h.lt, hB, Box.new _ _ _, h.later ((Below.refl _ _).alloc (Nat.le_refl _) _), (Below.refl _ _).alloc hB _, Keeps.of_below ((Below.refl _ _).alloc (Nat.le_refl _) _)⟩
theorem PW.step {B q : Nat} {W w w' : World} {t : Tr} {A : Option Addr} {c : Nat} {l l' : List UInt8} (h : PW B q W t A c l w) (hl : Bld w' B q l') (hb : Below B w w') (hk : Keeps q w w') : PW B q W t A c l' w' :=
  ⟨h.lt, h.le, hk.box h.box (by have := h.lt; omega) (by decide), hl, h.bel.trans hb, h.keep.trans hk h.bel.size⟩
theorem PW.later {B q : Nat} {W w w' : World} {t : Tr} {A : Option Addr} {c : Nat} {l : List UInt8} (h : PW B q W t A c l w) (hb : Below w.heap.size w w') : PW B q W t A c l w' :=
  h.step (h.bld.later hb) (hb.mono (Nat.le_trans h.le h.bel.size)) (Keeps.of_below hb)
theorem PW.cells {B q : Nat} {W w : World} {t : Tr} {A : Option Addr} {c : Nat} {l : List UInt8} (h : PW B q W t A c l w) :
    w.cell? ⟨W.heap.size, 0, none⟩ = some (.int .i64 t.op) ∧ w.cell? ⟨W.heap.size, 1, none⟩ = some (.string t.name) ∧ w.cell? ⟨W.heap.size, 2, none⟩ = some (.string t.value) ∧ w.cell? ⟨W.heap.size, 3, none⟩ = some (.slice A t.kids.length c) :=
  ⟨h.box.cell 0, h.box.cell 1, h.box.cell 2, h.box.cell 3⟩
set_option maxHeartbeats 2000000 in
set_option maxRecDepth 100000 in
theorem printV_c (B q : Nat) (l : List UInt8) (x : Tr) (A : Option Addr) (c : Nat) (lv : Int) (W : World) (hP : partB x = true) (hk : x.kids.length ≤ 255) (hl : l.length + (ownL x).length ≤ 1000000) (hB : B ≤ W.heap.size) (h : Bld W B q l) :
    Calls Try.prog 29 #[exV x A c, .int .i64 lv, .pointer (some ⟨q, 0, none⟩)] W (Wr B q W (l ++ ownL x)) := by
  have HS := Lib.hid (PW.start x A c hB h)
  have ho := fun w => own_c x A c w hP hk
  have hw := fun w (h : Bld w B q l) hB => bwrite_c B q l (ownB x) w h (by show l.length + (ownL x).length ≤ _; omega) hB
  have hx : (ownB x).data.toList = ownL x := rfl
  rw [hx] at hw
  clear hx h hP
  obtain ⟨c0, c1, c2, c3⟩ := HS.out.cells
  generalize ownB x = xs at *
  generalize ownL x = xl at *
  unfold exV exC at *
  go_enter Try.func29, Try.ntmps29
  go_wp2_with fail
  with_reducible refine (ho _).mono ?_
  rintro en w1 ⟨rfl, hb1⟩
  have HS1 := Lib.hid (HS.out.later hb1)
  clear hb1 c0 c1 c2 c3 HS ho
  go_wp2_with fail
  with_reducible refine (hw _ HS1.out.bld (Nat.le_trans HS1.out.le HS1.out.bel.size)).mono ?_
  rintro en w2 ⟨rfl, hd2, hb2, hk2⟩
  have HS2 := Lib.hid (HS1.out.step hd2 hb2 hk2)
  clear hd2 hb2 hk2 HS1 hw
  go_wp2_with fail
  go_ret
  exact ⟨rfl, HS2.out.bld, HS2.out.bel, HS2.out.keep⟩
/-- Its text up to the k-th kid, as bytes. -/
def textL (d : Nat) (t : Tr) (k : Nat) : List UInt8 := ownL t ++ (t.kids.take k).flatMap (textD d)
theorem textL_snoc (d : Nat) (t : Tr) (k : Nat) (hk : k < t.kids.length) : textL d t k ++ textD d t.kids[k] = textL d t (k + 1) := by
  unfold textL
  have e : t.kids.take (k + 1) = t.kids.take k ++ [t.kids[k]] := by rw [List.take_add_one, List.getElem?_eq_getElem hk]; rfl
  rw [e, List.flatMap_append]
  simp
theorem textL_end (d : Nat) (t : Tr) (k : Nat) (h0 : d = 0 → t.kids.length = 0) (hk : t.kids.length ≤ k) : textL (d - 1) t k = textD d t := by
  cases d with
  | zero =>
    have h := List.eq_nil_of_length_eq_zero (h0 rfl)
    unfold textL textD
    rw [h]
    simp
  | succ d =>
    unfold textL
    rw [List.take_of_length_le hk]
    rfl
theorem textL_le (d : Nat) (t : Tr) (k : Nat) (h0 : d = 0 → t.kids.length = 0) : (textL (d - 1) t k).length ≤ (textD d t).length := by
  have h := textL_end d t t.kids.length h0 (Nat.le_refl _)
  rw [← h]
  unfold textL
  rw [List.length_append, List.length_append, List.take_length]
  have : ((t.kids.take k).flatMap (textD (d - 1))).length ≤ (t.kids.flatMap (textD (d - 1))).length := by
    conv => rhs; rw [← List.take_append_drop k t.kids, List.flatMap_append, List.length_append]
    omega
  omega
set_option maxHeartbeats 2000000 in
set_option maxRecDepth 100000 in
theorem walkP_in (B q d m : Nat) (l0 : List UInt8) (lv : Int) (hlv : 0 ≤ lv ∧ lv < 1000000000) (t : Tr) (A : Option Addr) (c : Nat) (W : World) (hP : partsB (m + 1) t = true) (hk : t.kids.length ≤ 255) (hlen : l0.length + (textD d t).length ≤ 1000000)
    (hT : TrAt (fun b => b < B) W d A t) (hB : B ≤ W.heap.size) (hq : Bld W B q l0)
    (ih : ∀ d', d = d' + 1 → ∀ (l : List UInt8) x A c w, x ∈ t.kids → l.length + (textD d' x).length ≤ 1000000 → TrAt (fun b => b < B) w d' A x → B ≤ w.heap.size → Bld w B q l → Calls Try.prog 26 #[exV x A c, .int .i64 (lv + 1), .func (.func 29) #[] #[.pointer (some ⟨q, 0, none⟩)]] w (Wr B q w (l ++ textD d' x))) :
    Calls Try.prog 26 #[exV t A c, .int .i64 lv, .func (.func 29) #[] #[.pointer (some ⟨q, 0, none⟩)]] W (Wr B q W (l0 ++ textD d t)) := by
  have hkl := hT.node.kids
  have h0 : d = 0 → t.kids.length = 0 := fun e => by subst e; exact hT.2
  have hp2 : (partB t && t.kids.all (partsB m)) = true := hP
  rw [Bool.and_eq_true] at hp2
  have hown : (ownL t).length ≤ (textD d t).length := by have := textL_le d t 0 h0; simpa [textL] using this
  have HB := Lib.hid (PW.start t A c hB hq)
  have hvv := fun w h h2 => printV_c B q l0 t A c lv w hp2.1 hk (by omega) h h2
  have HT := Lib.hid hT
  have H0 := Lib.hid h0
  have HLE := Lib.hid (fun k => textL_le d t k h0)
  have hBW := hB
  clear hT h0 hP hp2 hown hq hB
  obtain ⟨c0, c1, c2, c3⟩ := HB.out.cells
  have hc : ∀ s w, PW B q W t A c s w → _ := fun s w h => h.cells
  unfold exV exC at *
  go_enter Try.func26, Try.ntmps26
  go_wp2_with fail
  with_reducible refine (hvv _ (Nat.le_trans HB.out.le HB.out.bel.size) HB.out.bld).mono ?_
  rintro en w1 ⟨rfl, hd1, hb1, hk1⟩
  have HB1 := Lib.hid (HB.out.step hd1 hb1 hk1)
  clear hb1 hd1 hk1 c0 c1 c2 c3 HB hvv
  obtain ⟨c0, c1, c2, c3⟩ := hc _ _ HB1.out
  go_wp2_with fail
  go_loopw [8, 17] (fun x i wr => ∃ (k : Nat), i = .int .i64 k ∧ k ≤ t.kids.length ∧ PW B q W t A c (l0 ++ textL (d - 1) t k) wr) (fun _ i _ => t.kids.length - (intOf i).toNat)
  case atStart => exact ⟨0, rfl, Nat.zero_le _, by have := HB1.out; simpa [textL] using this⟩
  case round =>
    obtain ⟨k, rfl, hkl, hB⟩ := hrel
    have HB2 := Lib.hid hB
    clear hB HB1 c0 c1 c2 c3
    by_cases hk : k < t.kids.length
    · obtain ⟨b, off, A', c', d', hd', rfl, ho, hlt', q0, q1, q2, q3, hkid⟩ := (HT.out.off HB2.out.bel.size (fun b _ hok => HB2.out.bel.block b hok)).at_ hk
      subst hd'
      simp only [Nat.add_sub_cancel] at *
      have hsn : (l0 ++ textL d' t k) ++ textD d' t.kids[k] = l0 ++ textL d' t (k + 1) := by rw [List.append_assoc, textL_snoc d' t k hk]
      have hll : (l0 ++ textL d' t k).length + (textD d' t.kids[k]).length ≤ 1000000 := by
        have h1 := HLE.out (k + 1)
        have h2 := congrArg List.length hsn
        simp only [List.length_append] at h2 ⊢
        omega
      have hkc := fun w (hb : TrAt (fun b => b < B) w d' A' t.kids[k]) hB hbl => ih d' rfl (l0 ++ textL d' t k) t.kids[k] A' c' w (List.getElem_mem hk) hll hb hB hbl
      rw [hsn] at hkc
      clear hsn hll ih
      have HV := Lib.hid (HB2.out.later ((Below.refl _ _).alloc (Nat.le_refl _) (.cells #[.int .i64 (t.kids[k]).op, .string (t.kids[k]).name, .string (t.kids[k]).value, .slice A' (t.kids[k]).kids.length c'] 24)))
      have HX := Lib.hid (Box.new wr 24 #[.int .i64 (t.kids[k]).op, .string (t.kids[k]).name, .string (t.kids[k]).value, .slice A' (t.kids[k]).kids.length c'])
      have HKD := Lib.hid (hkid.below ((Below.refl _ _).alloc (Nat.le_refl _) (.cells #[.int .i64 (t.kids[k]).op, .string (t.kids[k]).name, .string (t.kids[k]).value, .slice A' (t.kids[k]).kids.length c'] 24)))
      clear hkid
      go_wp2_with fail
      with_reducible refine (hkc _ HKD.out (Nat.le_trans HV.out.le HV.out.bel.size) HV.out.bld).mono ?_
      rintro en w2 ⟨rfl, hd2, hb2, hk2⟩
      have HB3 := Lib.hid (HV.out.step hd2 hb2 hk2)
      clear hb2 hd2 hk2 q0 q1 q2 q3 HB2 hkc HV HX HKD
      go_wp2_with fail
      go_roundw
      case rel => exact ⟨k + 1, rfl, hk, HB3.out⟩
      case measure => simp [intOf]; omega
    · have HE := Lib.hid (textL_end d t k H0.out (by omega))
      have hw := HB2.out
      clear HB2
      go_wp2_with fail
      go_ret
      rw [HE.out] at hw
      exact ⟨rfl, hw.bld, hw.bel, hw.keep⟩
theorem walkP_c (B q : Nat) : ∀ (d m : Nat) (l0 : List UInt8) (lv : Int) (t : Tr) (A : Option Addr) (c : Nat) (W : World), 0 ≤ lv → lv + d < 1000000000 → partsB m t = true → szD d t ≤ 30 → l0.length + (textD d t).length ≤ 1000000 →
    TrAt (fun b => b < B) W d A t → B ≤ W.heap.size → Bld W B q l0 → Calls Try.prog 26 #[exV t A c, .int .i64 lv, .func (.func 29) #[] #[.pointer (some ⟨q, 0, none⟩)]] W (Wr B q W (l0 ++ textD d t)) := by
  intro d
  induction d with
  | zero =>
    intro m l0 lv t A c W h0 h1 hP hz hl hT hB hq
    cases m with
    | zero => cases hP
    | succ m => exact walkP_in B q 0 m l0 lv ⟨h0, by omega⟩ t A c W hP (by have := hT.2; omega) hl hT hB hq (fun d' e => absurd e (by omega))
  | succ d ih =>
    intro m l0 lv t A c W h0 h1 hP hz hl hT hB hq
    cases m with
    | zero => cases hP
    | succ m =>
      have hp2 : (partB t && t.kids.all (partsB m)) = true := hP
      rw [Bool.and_eq_true, List.all_eq_true] at hp2
      have hkf := (kids_few (f := d) (t := t) (n := 0) (by omega) (by omega)).1
      exact walkP_in B q (d + 1) m l0 lv ⟨h0, by omega⟩ t A c W hP (by omega) hl hT hB hq (fun d' e l x A c w hx hl hT hB hq => by
        cases e
        have h9 : 1 + (t.kids.map (szD d)).sum ≤ 30 := hz
        have := sum_mem (szD d) t.kids x hx
        exact ih m l (lv + 1) x A c w (by omega) (by omega) (hp2.2 x hx) (by omega) hl hT hB hq)
/-- What Print hands back. -/
def printG (d : Nat) (t : Tr) : ByteArray × Int := if checkG t = 0 then (textB d t, 0) else (⟨#[]⟩, 1)
theorem checkG_ok {t : Tr} (h : checkG t = 0) : partsB 6 t = true ∧ sizeG t ≤ 30 := by
  unfold checkG at h
  split at h
  · cases h
  · rename_i h2
    refine ⟨?_, by omega⟩
    cases hp : partsB 6 t with
    | true => rfl
    | false => exact absurd (.inr hp) h2
theorem size_small {d : Nat} {t : Tr} (hd : depD d t) (hle : d ≤ 99) (h : sizeG t ≤ 30) : szD d t ≤ 30 := by
  have h1 : sizeG t = ((min 100 (szD d t) : Nat) : Int) := by rw [sizeG_eq, sizeN_is 99 100 t (depD_le hd hle) (by omega), szD_le hd hle]
  omega
theorem mk_size (l : List UInt8) : (⟨l.toArray⟩ : ByteArray).size = l.length := rfl
set_option maxHeartbeats 2000000 in
set_option maxRecDepth 100000 in
theorem print_c (ok : Nat → Prop) (d : Nat) (t : Tr) (A : Option Addr) (c : Nat) (W : World) (hd : d ≤ 99) (hT : TrAt ok W d A t) :
    Calls Try.prog 17 #[exV t A c] W (Good W (.tuple #[.string (printG d t).1, .int .i64 (printG d t).2])) := by
  have hck := fun w (h : TrAt ok w d A t) => check_c ok d t A c w (by omega) h
  rw [check_same hT.depD hT.depD hd] at hck
  have HS := Lib.hid (Boxed.start W t A c)
  have HT := Lib.hid hT.lower
  have hck2 := hck _ (hT.below HS.out.bel)
  have HDP := Lib.hid hT.depD
  clear hT hck
  obtain ⟨c0, c1, c2, c3⟩ := HS.out.cells
  by_cases h : checkG t = 0
  · have HG : Hid (printG d t = (textB d t, 0)) := Lib.hid (by unfold printG; rw [if_pos h])
    obtain ⟨hp, hz⟩ := checkG_ok h
    have hz2 := size_small HDP.out hd hz
    have hlen := textB_size d 6 t hp
    have hwk := fun B q w (h1 : TrAt (fun b => b < B) w d A t) (h2 : B ≤ w.heap.size) (h3 : Bld w B q []) => walkP_c B q d 6 [] 1 t A c w (by omega) (by omega) hp hz2 (by have : (textD d t).length ≤ 2100 * szD d t := hlen; simp; omega) h1 h2 h3
    simp only [List.nil_append] at hwk
    rw [h] at hck2
    clear h hp hz hz2 hlen
    unfold exV exC at *
    go_enter Try.func17, Try.ntmps17
    go_wp2_with fail
    with_reducible refine hck2.mono ?_
    rintro en w1 ⟨rfl, hb1⟩
    have HS1 := Lib.hid (HS.out.later hb1)
    clear hb1 c0 c1 c2 c3 HS hck2
    have HA := Lib.hid ((Below.refl w1.heap.size w1).alloc (Nat.le_refl _) (.cells #[.pointer none, .slice none 0 0] 48))
    have HS2 := Lib.hid (HS1.out.later HA.out)
    obtain ⟨c0, c1, c2, c3⟩ := HS2.out.cells
    have HTT : Hid (TrAt (fun b => b < w1.heap.size) (w1.alloc (.cells #[.pointer none, .slice none 0 0] 48)) d A t) := Lib.hid ((HT.out.mono (ok' := fun b => b < w1.heap.size) (fun b _ hok => by have := HS1.out.bel.size; omega)).below (HS1.out.bel.trans (HA.out.mono HS1.out.bel.size)))
    have HBL := Lib.hid (Bld.fresh w1)
    go_wp2_with fail
    with_reducible refine (hwk _ _ _ HTT.out (by simp) HBL.out).mono ?_
    rintro en w2 ⟨rfl, hd2, hb2, hk2⟩
    have hs2 := Try.Builder_String_any w1.heap.size w1.heap.size (textD d t) w2 hd2 (Nat.le_trans (by simp) hb2.size)
    have HBE : Hid (Below W.heap.size W w2) := Lib.hid ((HS1.out.bel.trans (HA.out.mono HS1.out.bel.size)).trans (hb2.mono HS1.out.bel.size))
    have HSZ : Hid (W.heap.size ≤ w1.heap.size) := Lib.hid HS1.out.bel.size
    clear hd2 hb2 hk2 c0 c1 c2 c3 hwk HTT HBL
    have HTX : Hid ((⟨(textD d t).toArray⟩ : ByteArray) = textB d t) := Lib.hid rfl
    go_wp2_with fail
    with_reducible refine hs2.mono ?_
    rintro en w3 ⟨rfl, hb3⟩
    go_wp2_with fail
    go_ret2
    rw [HG.out]
    exact ⟨congrArg (fun x => Ending.returned (.tuple #[.string x, .int .i64 0])) HTX.out, HBE.out.trans (hb3.mono HSZ.out)⟩
  · have hc1 : checkG t = 1 := by unfold checkG at h ⊢; split <;> simp_all
    have HG : Hid (printG d t = (⟨#[]⟩, 1)) := Lib.hid (by unfold printG; rw [if_neg h])
    rw [hc1] at hck2
    clear h hc1
    unfold exV exC at *
    go_enter Try.func17, Try.ntmps17
    go_wp2_with fail
    with_reducible refine hck2.mono ?_
    rintro en w1 ⟨rfl, hb1⟩
    have HS1 := Lib.hid (HS.out.later hb1)
    clear hb1 c0 c1 c2 c3 HS hck2
    go_wp2_with fail
    go_ret2
    rw [HG.out]
    exact ⟨rfl, HS1.out.bel⟩
set_option maxHeartbeats 2000000 in
set_option maxRecDepth 100000 in
theorem rprint_c (ok : Nat → Prop) (d : Nat) (t : Tr) (A : Option Addr) (c : Nat) (W : World) (hd : d ≤ 99) (hT : TrAt ok W d A t) :
    Calls Try.prog 18 #[exV t A c] W (Good W (.tuple #[.string (printG d t).1, .int .i64 (printG d t).2])) := by
  have hck := fun w (h : TrAt ok w d A t) => rCheck_c ok d t A c w h
  have HS := Lib.hid (Boxed.start W t A c)
  have hck2 := hck _ (hT.below HS.out.bel)
  have HT := Lib.hid hT
  have HDP := Lib.hid hT.depD
  clear hT hck
  obtain ⟨c0, c1, c2, c3⟩ := HS.out.cells
  by_cases h : checkG t = 0
  · have HG : Hid (printG d t = (textB d t, 0)) := Lib.hid (by unfold printG; rw [if_pos h])
    obtain ⟨hp, hz⟩ := checkG_ok h
    have hz2 := size_small HDP.out hd hz
    have htx := fun w (h1 : TrAt ok w d A t) => rxtext_c ok d 6 t A c w h1 hp hz2
    rw [h] at hck2
    clear h hp hz hz2
    unfold exV exC at *
    generalize textB d t = x at *
    go_enter Try.func18, Try.ntmps18
    go_wp2_with fail
    with_reducible refine hck2.mono ?_
    rintro en w1 ⟨rfl, hb1⟩
    have HS1 := Lib.hid (HS.out.later hb1)
    clear hb1 c0 c1 c2 c3 HS hck2
    obtain ⟨c0, c1, c2, c3⟩ := HS1.out.cells
    go_wp2_with fail
    with_reducible refine (htx _ (HT.out.below HS1.out.bel)).mono ?_
    rintro en w2 ⟨rfl, hb2⟩
    have HS2 := Lib.hid (HS1.out.later hb2)
    clear hb2
    go_wp2_with fail
    go_ret2
    rw [HG.out]
    exact ⟨rfl, HS2.out.bel⟩
  · have hc1 : checkG t = 1 := by unfold checkG at h ⊢; split <;> simp_all
    have HG : Hid (printG d t = (⟨#[]⟩, 1)) := Lib.hid (by unfold printG; rw [if_neg h])
    rw [hc1] at hck2
    clear h hc1
    unfold exV exC at *
    go_enter Try.func18, Try.ntmps18
    go_wp2_with fail
    with_reducible refine hck2.mono ?_
    rintro en w1 ⟨rfl, hb1⟩
    have HS1 := Lib.hid (HS.out.later hb1)
    clear hb1 c0 c1 c2 c3 HS hck2
    go_wp2_with fail
    go_ret2
    rw [HG.out]
    exact ⟨rfl, HS1.out.bel⟩
end Go.Proofs.Ytneholfghffpfaa
