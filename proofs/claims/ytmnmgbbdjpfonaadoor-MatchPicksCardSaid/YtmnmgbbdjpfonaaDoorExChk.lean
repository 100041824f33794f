/- expr: the document's parts, Depth, Size, Check by contracts. -/
import Derived.Test.YtmnmgbbdjpfonaaDoorExPart
namespace Go.Proofs.YtmnmgbbdjpfonaaDoor
open Go.RowKit
set_option linter.unusedVariables false
/-- May all parts be, m deep at most? -/
def partsB : Nat → Tr → Bool
  | 0, _ => false
  | m + 1, t => partB t && t.kids.all (partsB m)
theorem all_snoc {α : Type} (p : α → Bool) (L : List α) (k : Nat) (hk : k < L.length) : (L.take (k + 1)).all p = ((L.take k).all p && p L[k]) := by
  rw [List.take_add_one, List.getElem?_eq_getElem hk, Option.toList_some, List.all_append]; simp
theorem all_not {α : Type} (p : α → Bool) (L : List α) (k : Nat) (hk : k < L.length) (h : p L[k] = false) : L.all p = false := by
  rw [List.all_eq_false]
  exact ⟨L[k], List.getElem_mem hk, by simp [h]⟩
set_option maxHeartbeats 2000000 in
set_option maxRecDepth 100000 in
theorem rparts_in (ok : Nat → Prop) (d m : Nat) (t : Tr) (A : Option Addr) (c : Nat) (W : World) (hm : m ≤ 1000) (hT : TrAt ok W d A t)
    (ih : ∀ d', d = d' + 1 → ∀ (m : Nat) (t : Tr) (A : Option Addr) (c : Nat) (W : World), m ≤ 1000 → TrAt ok W d' A t →
      Calls Tryd.prog 35 #[exV t A c, .int .i64 (m : Int)] W (Good W (.bool (partsB m t)))) :
    Calls Tryd.prog 35 #[exV t A c, .int .i64 (m : Int)] W (Good W (.bool (partsB m t))) := by
  have hp := fun w => rpart_c t A c w hT.node
  cases m with
  | zero =>
    have hb := Boxed.start W t A c
    have HB := Lib.hid hb.bel
    obtain ⟨c0, c1, c2, c3⟩ := hb.cells
    clear hb
    unfold exV exC at *
    go_enter Tryd.func35, Tryd.ntmps35
    go_wp2_with fail
    go_ret
    exact ⟨rfl, HB.out⟩
  | succ m =>
    have HT := Lib.hid hT
    have hkl := hT.node.kids
    have ih' := fun d' hd x A c W h => ih d' hd m x A c W (by omega) h
    clear ih hT
    have hc : ∀ w, Boxed W t A c w → _ := fun w h => h.cells
    have HB := Lib.hid (Boxed.start W t A c)
    have hl1 : ¬ (((m + 1 : Nat) : Int) < 1) := by omega
    have hl2 : (m : Int) = ((m + 1 : Nat) : Int) - 1 := by omega
    have hl3 : ((m + 1 : Nat) : Int) ≤ 1002 := by omega
    rw [hl2] at ih'
    clear hl2
    generalize ((m + 1 : Nat) : Int) = z at *
    generalize hR : partsB (m + 1) t = R
    have HR : Hid (R = (partB t && t.kids.all (partsB m))) := Lib.hid hR.symm
    clear hR
    obtain ⟨c0, c1, c2, c3⟩ := hc _ HB.out
    unfold exV exC at *
    go_enter Tryd.func35, Tryd.ntmps35
    generalize partB t = pb at *
    cases pb with
    | true =>
      go_wp2_with fail
      with_reducible refine (hp _).mono ?_
      rintro en w1 ⟨rfl, hb1⟩
      have HB1 := Lib.hid (HB.out.later hb1)
      clear hb1 c0 c1 c2 c3 hp
      go_wp2_with fail
      go_loopw [5] (fun i wr => ∃ k : Nat, i = .int .i64 k ∧ k ≤ t.kids.length ∧ (t.kids.take k).all (partsB m) = true ∧ Boxed W t A c wr) (fun i _ => t.kids.length - (intOf i).toNat)
      case atStart => exact ⟨0, rfl, Nat.zero_le _, rfl, HB1.out⟩
      case round =>
        obtain ⟨k, rfl, hkl, hall, hB⟩ := hrel
        obtain ⟨c0, c1, c2, c3⟩ := hc _ hB
        have HB2 := Lib.hid hB
        have HA := Lib.hid hall
        clear hB HB hall
        by_cases hk : k < t.kids.length
        · obtain ⟨b, off, A', c', d', hd', rfl, ho, hlt', q0, q1, q2, q3, hkid⟩ := (HT.out.below HB2.out.bel).at_ hk
          have hkc := fun w (hb : Below wr.heap.size wr w) => ih' d' hd' t.kids[k] A' c' w (hkid.below hb)
          have HS := Lib.hid (all_snoc (partsB m) t.kids k hk)
          have HF := Lib.hid (all_not (partsB m) t.kids k hk)
          generalize partsB m t.kids[k] = bk at *
          go_wp2_with fail
          with_reducible refine (hkc _ (Below.refl _ _)).mono ?_
          rintro en w2 ⟨rfl, hb2⟩
          have HB3 := Lib.hid (HB2.out.later hb2)
          clear hb2 c0 c1 c2 c3 q0 q1 q2 q3 HB2 hkc
          cases bk with
          | true =>
            go_wp2_with fail
            go_roundw
            case rel => exact ⟨k + 1, rfl, hk, by rw [HS.out, HA.out]; rfl, HB3.out⟩
            case measure => simp [intOf]; omega
          | false =>
            go_wp2_with fail
            go_ret
            refine ⟨?_, HB3.out.bel⟩
            rw [HR.out, HF.out trivial]
            rfl
        · have hb := HB2.out.bel
          have hkk : t.kids.take k = t.kids := List.take_of_length_le (by omega)
          have HA2 : Hid (t.kids.all (partsB m) = true) := Lib.hid (by rw [← hkk]; exact HA.out)
          go_wp2_with fail
          go_ret
          refine ⟨?_, hb⟩
          rw [HR.out, HA2.out]
          rfl
    | false =>
      go_wp2_with fail
      with_reducible refine (hp _).mono ?_
      rintro en w1 ⟨rfl, hb1⟩
      have HB1 := Lib.hid (HB.out.later hb1)
      clear hb1 c0 c1 c2 c3 hp
      go_wp2_with fail
      go_ret
      refine ⟨?_, HB1.out.bel⟩
      rw [HR.out]
      rfl
theorem rparts_c (ok : Nat → Prop) : ∀ (d m : Nat) (t : Tr) (A : Option Addr) (c : Nat) (W : World), m ≤ 1000 → TrAt ok W d A t →
    Calls Tryd.prog 35 #[exV t A c, .int .i64 (m : Int)] W (Good W (.bool (partsB m t))) := by
  intro d
  induction d with
  | zero => exact fun m t A c W hm hT => rparts_in ok 0 m t A c W hm hT (fun d' h => absurd h (by omega))
  | succ d ih => exact fun m t A c W hm hT => rparts_in ok (d + 1) m t A c W hm hT (fun d' h => by cases h; exact ih)
/-- Depth, Size, Check as the document has them. -/
def depthG (t : Tr) : Int := (depthN 99 t : Nat)
def sizeG (t : Tr) : Int := min (sizeN 99 100 t : Nat) 100
def checkG (t : Tr) : Int := if 30 < sizeG t ∨ partsB 6 t = false then 1 else 0
theorem sizeG_eq (t : Tr) : sizeG t = (sizeN 99 100 t : Nat) := by have := sizeN_le 99 100 t; unfold sizeG; omega
set_option maxHeartbeats 1000000 in
set_option maxRecDepth 100000 in
theorem rDepth_c (ok : Nat → Prop) (d : Nat) (t : Tr) (A : Option Addr) (c : Nat) (W : World) (hT : TrAt ok W d A t) :
    Calls Tryd.prog 17 #[exV t A c] W (Good W (.int .i64 (depthG t))) := by
  have hd : ∀ w, TrAt ok w d A t → Calls Tryd.prog 28 #[exV t A c, .int .i64 100] w (Good w (.int .i64 (depthN 99 t))) := fun w h => rdepth_c ok d 99 t A c w (by omega) h
  have HT := Lib.hid hT
  have HB := Lib.hid (Boxed.start W t A c)
  obtain ⟨c0, c1, c2, c3⟩ := HB.out.cells
  unfold exV exC at *
  go_enter Tryd.func17, Tryd.ntmps17
  go_wp2_with fail
  with_reducible refine (hd _ (HT.out.below HB.out.bel)).mono ?_
  rintro en w1 ⟨rfl, hb1⟩
  have HB1 := Lib.hid (HB.out.later hb1)
  clear hb1 c0 c1 c2 c3 hd
  go_wp2_with fail
  go_ret
  exact ⟨rfl, HB1.out.bel⟩
set_option maxHeartbeats 1000000 in
set_option maxRecDepth 100000 in
theorem rSize_c (ok : Nat → Prop) (d : Nat) (t : Tr) (A : Option Addr) (c : Nat) (W : World) (hT : TrAt ok W d A t) :
    Calls Tryd.prog 16 #[exV t A c] W (Good W (.int .i64 (sizeG t))) := by
  have hd : ∀ w, TrAt ok w d A t → Calls Tryd.prog 27 #[exV t A c, .int .i64 100, .int .i64 100] w (Good w (.int .i64 (sizeN 99 100 t))) := fun w h => rsize_c ok d 99 100 t A c w (by omega) (by omega) h
  have hle := sizeN_le 99 100 t
  have HS := Lib.hid (sizeG_eq t)
  generalize sizeG t = sg at *
  generalize sizeN 99 100 t = sz at *
  have HT := Lib.hid hT
  have HB := Lib.hid (Boxed.start W t A c)
  obtain ⟨c0, c1, c2, c3⟩ := HB.out.cells
  unfold exV exC at *
  go_enter Tryd.func16, Tryd.ntmps16
  go_wp2_with fail
  with_reducible refine (hd _ (HT.out.below HB.out.bel)).mono ?_
  rintro en w1 ⟨rfl, hb1⟩
  have HB1 := Lib.hid (HB.out.later hb1)
  clear hb1 c0 c1 c2 c3 hd
  go_wp2_with fail
  all_goals (go_ret; refine ⟨?_, HB1.out.bel⟩; refine congrArg (fun b => Ending.returned (.int .i64 b)) (?_ : _ = sg); rw [HS.out])
set_option maxHeartbeats 1000000 in
set_option maxRecDepth 100000 in
theorem rCheck_c (ok : Nat → Prop) (d : Nat) (t : Tr) (A : Option Addr) (c : Nat) (W : World) (hT : TrAt ok W d A t) :
    Calls Tryd.prog 23 #[exV t A c] W (Good W (.int .i64 (checkG t))) := by
  have hs := fun w h => rSize_c ok d t A c w h
  have hp : ∀ w, TrAt ok w d A t → Calls Tryd.prog 35 #[exV t A c, .int .i64 6] w (Good w (.bool (partsB 6 t))) := fun w h => rparts_c ok d 6 t A c w (by omega) h
  have hle := sizeN_le 99 100 t
  have hse := sizeG_eq t
  have hb : sizeG t ≤ 100 ∧ 0 ≤ sizeG t := by omega
  clear hle hse
  generalize hR : checkG t = R
  unfold checkG at hR
  have HT := Lib.hid hT
  have HB := Lib.hid (Boxed.start W t A c)
  obtain ⟨c0, c1, c2, c3⟩ := HB.out.cells
  unfold exV exC at *
  generalize partsB 6 t = pb at *
  generalize sizeG t = sg at *
  by_cases h30 : 30 < sg
  · have HR : Hid (R = 1) := Lib.hid (by rw [← hR, if_pos (.inl h30)])
    clear hR
    go_enter Tryd.func23, Tryd.ntmps23
    go_wp2_with fail
    with_reducible refine (hs _ (HT.out.below HB.out.bel)).mono ?_
    rintro en w1 ⟨rfl, hb1⟩
    have HB1 := Lib.hid (HB.out.later hb1)
    clear hb1 c0 c1 c2 c3 hs hp
    go_wp2_with fail
    go_ret
    refine ⟨?_, HB1.out.bel⟩
    rw [HR.out]
    rfl
  · have HR : Hid (R = if pb = false then 1 else 0) := Lib.hid (by rw [← hR]; simp [h30])
    clear hR
    go_enter Tryd.func23, Tryd.ntmps23
    go_wp2_with fail
    with_reducible refine (hs _ (HT.out.below HB.out.bel)).mono ?_
    rintro en w1 ⟨rfl, hb1⟩
    have HB1 := Lib.hid (HB.out.later hb1)
    obtain ⟨d0, d1, d2, d3⟩ := HB1.out.cells
    clear hb1 c0 c1 c2 c3 hs
    go_wp2_with fail
    with_reducible refine (hp _ (HT.out.below HB1.out.bel)).mono ?_
    rintro en w2 ⟨rfl, hb2⟩
    have HB2 := Lib.hid (HB1.out.later hb2)
    clear hb2 d0 d1 d2 d3 hp HB1
    cases pb with
    | true =>
      go_wp2_with fail
      go_ret
      refine ⟨?_, HB2.out.bel⟩
      rw [HR.out]
      rfl
    | false =>
      go_wp2_with fail
      go_ret
      refine ⟨?_, HB2.out.bel⟩
      rw [HR.out]
      rfl
end Go.Proofs.YtmnmgbbdjpfonaaDoor
