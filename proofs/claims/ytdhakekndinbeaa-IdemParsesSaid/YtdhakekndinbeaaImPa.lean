/- idem: Parse, by a contract. No condition. -/
import Derived.Test.YtdhakekndinbeaaImPr
namespace Go.Proofs.Ytdhakekndinbeaa
open Go.RowKit
set_option linter.unusedVariables false
/-- What Parse tells: its error, those that were read. -/
def paE (s : ByteArray) : Int := if (psR s 0 0).2.2.2 = 0 then (if (psR s 0 0).2.2.1 < (s.size : Int) then 3 else 0) else (psR s 0 0).2.2.2
def GotPa (W : World) (s : ByteArray) (en : Ending) (w' : World) : Prop :=
  Below W.heap.size W w' ∧ ((paE s ≠ 0 ∧ en = .returned (.tuple #[.pointer none, .int .i64 (paE s)])) ∨
    (paE s = 0 ∧ ∃ p m F, en = .returned (.tuple #[dp p, .int .i64 0]) ∧ PdIs w' p m F ∧ absF F = (psR s 0 0).1 ∧ F.length ≤ 10000 ∧ W.heap.size ≤ p ∧ (∀ y ∈ F, W.heap.size ≤ y.blk) ∧ (∀ g, m = some g → W.heap.size ≤ g)))
set_option maxHeartbeats 8000000 in
set_option maxRecDepth 100000 in
theorem parse_c (s : ByteArray) (W : World) (hs : s.size ≤ 1152921504606846976) : Calls Try.prog 16 #[.string s] W (GotPa W s) := by
  have hB : Below W.heap.size W (W.alloc (.cells #[.string s, .int .i64 0, .int .i64 0] 79)) := (Below.refl _ _).alloc (Nat.le_refl _) _
  have HX : Hid (Box (W.alloc (.cells #[.string s, .int .i64 0, .int .i64 0] 79)) W.heap.size 79 (rdC s 0 0)) := Lib.hid (Box.new _ _ _)
  have HB := Lib.hid hB
  clear hB
  have kp := fun w hw => producers_c W.heap.size s 0 0 w hw hs
  unfold GotPs dp at kp
  obtain ⟨t, ht⟩ : ∃ t, psR s 0 0 = t := ⟨_, rfl⟩
  have HT := Lib.hid ht
  rw [ht] at kp
  clear ht
  obtain ⟨G, lst, q, e⟩ := t
  simp only at kp
  go_enter Try.func16, Try.ntmps16
  go_wp2_with fail
  with_reducible refine (kp _ HX.out).mono ?_
  rintro en w1 ⟨rfl, m, F, hP, hF, hl, hx, hb, hm, ho⟩
  have hsz : (W.alloc (.cells #[.string s, .int .i64 0, .int .i64 0] 79)).heap.size = W.heap.size + 1 := Array.size_push ..
  rw [hsz] at hP hb hm
  rw [hsz]
  have hBW : Below W.heap.size W w1 := HB.out.trans (ho.below HB.out.size (fun k hk => by omega))
  obtain ⟨_, x1, x2, _, _⟩ := hx.rd0
  have HP := Lib.hid hP
  have HF := Lib.hid hF
  have HBW := Lib.hid hBW
  have HBb := Lib.hid hb
  have HBm := Lib.hid hm
  clear hP hF hBW hb hm ho HB HX kp hsz hx
  by_cases he : e = 0
  · subst he
    by_cases hq : q < (s.size : Int)
    · have hq1 : decide (q < (s.size : Int)) = true := decide_eq_true hq
      go_wp2_with fail
      go_ret2
      refine ⟨HBW.out, .inl ?_⟩
      unfold paE
      rw [HT.out, if_pos rfl, if_pos (of_decide_eq_true hq1)]
      exact ⟨by decide, rfl⟩
    · have hq1 : decide (q < (s.size : Int)) = false := decide_eq_false hq
      go_wp2_with fail
      go_ret2
      refine ⟨HBW.out, .inr ?_⟩
      unfold paE dp
      rw [HT.out, if_pos rfl, if_neg (of_decide_eq_false hq1)]
      exact ⟨rfl, _, m, F, rfl, HP.out, HF.out, hl, Nat.le_succ _, (fun y hy => Nat.le_trans (Nat.le_succ _) (HBb.out y hy)), (fun g hg => Nat.le_trans (Nat.le_succ _) (HBm.out g hg))⟩
  · have he1 : (e == (0 : Int)) = false := by simp [he]
    have HE := Lib.hid he
    clear he
    go_wp2_with fail
    go_region_with (fail)
    all_goals
      go_wp2_with fail
      go_ret2
      refine ⟨HBW.out.drew, .inl ?_⟩
      unfold paE
      rw [HT.out, if_neg HE.out]
      exact ⟨HE.out, rfl⟩
end Go.Proofs.Ytdhakekndinbeaa
