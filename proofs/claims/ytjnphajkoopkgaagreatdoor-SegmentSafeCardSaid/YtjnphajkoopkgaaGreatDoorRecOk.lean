/- Whether a record may be: the program's mayBe, Check, marksOf, and the document's Check, by contracts. -/
import Derived.Test.YtjnphajkoopkgaaGreatDoorRecBase
namespace Go.Proofs.YtjnphajkoopkgaaGreatDoor
open Go.RowKit
set_option linter.unusedVariables false
theorem ret_bool {a b : Bool} (h : a = b) : Ending.returned (.bool a) = .returned (.bool b) := by rw [h]
theorem okHead_not (k v : ByteArray) : (!okHead (k, v)) = (decide ((k.size : Int) < 1) || decide (1000 < (k.size : Int)) || decide (1000 < (v.size : Int))) := by
  rw [Bool.eq_iff_iff]
  simp only [okHead, Bool.not_eq_true', decide_eq_false_iff_not, Bool.or_eq_true, decide_eq_true_eq]
  omega
set_option maxHeartbeats 1000000 in
theorem wrong_c (h : Hd) (W : World) (h1 : h.1.size ≤ 1152921504606846976) (h2 : h.2.size ≤ 1152921504606846976) :
    Calls Tryz.prog 169 #[.agg #[.string h.1, .string h.2]] W (Good W (.bool (!okHead h))) := by
  obtain ⟨k, v⟩ := h
  simp only at h1 h2
  go_enter Tryz.func169, Tryz.ntmps169
  go_wp2
  all_goals
    go_ret
    refine ⟨ret_bool ?_, (Below.refl _ _).alloc (Nat.le_refl _) _⟩
    rw [okHead_not]
    try
      (rw [Bool.eq_iff_iff]; simp only [Bool.or_eq_true, decide_eq_true_eq, true_iff]; omega)
structure IdxAt (W : World) (hs : List Hd) (k : Nat) (wr : World) : Prop where
  le : k ≤ hs.length
  ok : (hs.take k).all okHead = true
  bel : Below W.heap.size W wr
theorem all_take_succ {hs : List Hd} {k : Nat} (hk : k < hs.length) : (hs.take (k + 1)).all okHead = ((hs.take k).all okHead && okHead hs[k]) := by
  rw [List.take_succ_eq_append_getElem hk, List.all_append]
  simp
theorem all_false {hs : List Hd} {k : Nat} (hk : k < hs.length) (h : okHead hs[k] = false) : hs.all okHead = false := by
  rw [← Bool.not_eq_true, List.all_eq_true]
  intro ha
  have := ha _ (List.getElem_mem hk)
  rw [h] at this; cases this
/-- The index of the first wrong header, or -1. -/
def SomeIdx (hs : List Hd) (W : World) (e : Ending) (w' : World) : Prop := ∃ n : Int, e = .returned (.int .i64 n) ∧ decide (0 ≤ n) = !hs.all okHead ∧ Below W.heap.size W w'
set_option maxHeartbeats 2000000 in
theorem index_c (hs : List Hd) (A : Option Addr) (c : Nat) (W : World) (hH : HIn W A hs) (hl : hs.length ≤ 140737488351232) (hz : ∀ h ∈ hs, h.1.size ≤ 1152921504606846976 ∧ h.2.size ≤ 1152921504606846976) :
    Calls Tryz.prog 178 #[.slice A hs.length c, .func (.func 169) #[] #[]] W (SomeIdx hs W) := by
  go_enter Tryz.func178, Tryz.ntmps178
  have HH := Lib.hid hH
  clear hH
  go_wp2
  go_loopw [5, 8] (fun i j wr => ∃ k : Nat, j = .int .i64 k ∧ IdxAt W hs k wr) (fun _ j _ => hs.length - (intOf j).toNat)
  case atStart => exact ⟨0, rfl, Nat.zero_le _, rfl, Below.refl _ _⟩
  case round =>
    obtain ⟨k, rfl, hR⟩ := hrel
    have hle := hR.le
    by_cases hk : k < hs.length
    · obtain ⟨b, off, rfl, hlt, g1, g2⟩ := (HH.out.below hR.bel).at_ hk
      have hzk := hz _ (List.getElem_mem hk)
      have hw := fun w => wrong_c hs[k] w hzk.1 hzk.2
      have hs1 := Lib.hid (all_take_succ hk)
      have hs2 := Lib.hid (all_false (hs := hs) hk)
      have HR := Lib.hid hR
      clear hR hz hzk
      cases ho : okHead hs[k] with
      | true =>
        rw [ho] at hw
        have HO := Lib.hid ho
        clear ho
        go_wp2_with ((with_reducible refine (hw _).mono ?_); rintro e w1 ⟨rfl, hb1⟩)
        go_roundw
        case rel => exact ⟨k + 1, by go_num, by omega, by rw [hs1.out, HR.out.ok, HO.out]; rfl, bjoin HR.out.bel hb1 rfl rfl⟩
        case measure => simp [intOf]; omega
      | false =>
        rw [ho] at hw
        have HO := Lib.hid (hs2.out ho)
        clear ho hs2
        go_wp2_with ((with_reducible refine (hw _).mono ?_); rintro e w1 ⟨rfl, hb1⟩)
        go_ret
        exact ⟨k, rfl, by rw [HO.out]; simp, bjoin HR.out.bel hb1 rfl rfl⟩
    · have HA : Hid (hs.all okHead = true) := Lib.hid (by have h2 := hR.ok; rwa [List.take_of_length_le (by omega)] at h2)
      have hb := hR.bel
      clear hR
      go_wp2
      go_ret
      exact ⟨-1, rfl, by rw [HA.out]; rfl, hb⟩
theorem contains_c (hs : List Hd) (A : Option Addr) (c : Nat) (W : World) (hH : HIn W A hs) (hl : hs.length ≤ 140737488351232) (hz : ∀ h ∈ hs, h.1.size ≤ 1152921504606846976 ∧ h.2.size ≤ 1152921504606846976) :
    Calls Tryz.prog 168 #[.slice A hs.length c, .func (.func 169) #[] #[]] W (Good W (.bool (!hs.all okHead))) := by
  have hi := index_c hs A c W hH hl hz
  clear hH hz
  go_enter Tryz.func168, Tryz.ntmps168
  go_wp2_with ((with_reducible refine hi.mono ?_); rintro e w1 ⟨n, rfl, hn, hb1⟩; have HN := Lib.hid hn; clear hn)
  go_ret
  exact ⟨ret_bool HN.out, hb1⟩
/-- The sum of a record's marks. -/
theorem marks_c (r : Rec) (A : Option Addr) (c : Nat) (W : World) : Calls Tryz.prog 137 #[recV r A c] W (Good W (.int .i64 (marks r.bare r.gone))) := by
  obtain ⟨place, time, bare, key, gone, value, heads⟩ := r
  unfold recV recC
  cases bare <;> cases gone
  all_goals
    go_enter Tryz.func137, Tryz.ntmps137
    go_wp2
    go_ret
    exact ⟨rfl, (Below.refl _ _).alloc (Nat.le_refl _) _⟩
end Go.Proofs.YtjnphajkoopkgaaGreatDoor
