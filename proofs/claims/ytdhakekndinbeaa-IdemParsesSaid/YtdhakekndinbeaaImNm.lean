/- idem: the document's numbers, by a contract. No condition. -/
import Derived.Test.YtdhakekndinbeaaImCn
namespace Go.Proofs.Ytdhakekndinbeaa
open Go.RowKit
set_option linter.unusedVariables false
set_option maxHeartbeats 16000000 in
set_option maxRecDepth 100000 in
theorem numbers_c (b : BN) (A : Option Addr) (n c : Nat) (W : World) : Calls Try.prog 28 #[bnV b A n c] W (Good W (.bool (bnB b))) := by
  have hB : Below W.heap.size W (W.alloc (.cells #[.int .i64 b.base, .int .i64 b.span, .int .i64 b.prod, .int .i64 b.epoch, .int .i64 b.seq, .slice A n c] 31)) := (Below.refl _ _).alloc (Nat.le_refl _) _
  have HX := Lib.hid (Box.new W 31 #[.int .i64 b.base, .int .i64 b.span, .int .i64 b.prod, .int .i64 b.epoch, .int .i64 b.seq, .slice A n c])
  have HB := Lib.hid hB
  clear hB
  obtain ⟨v, hv⟩ : ∃ v, bnB b = v := ⟨_, rfl⟩
  rw [hv]
  unfold bnV bnC
  by_cases h0 : 0 ≤ b.prod
  case neg =>
    have HV : Hid (v = false) := Lib.hid (by rw [← hv]; unfold bnB witB; simp [h0])
    have e0 : decide (0 ≤ b.prod) = false := decide_eq_false h0
    clear hv h0
    go_enter Try.func28, Try.ntmps28
    go_wp2_with fail
    go_ret
    exact ⟨by rw [HV.out]; rfl, HB.out⟩
  have e0 : decide (0 ≤ b.prod) = true := decide_eq_true h0
  by_cases h1 : b.prod ≤ 1073741824
  case neg =>
    have HV : Hid (v = false) := Lib.hid (by rw [← hv]; unfold bnB witB; simp [h1])
    have e1 : decide (b.prod ≤ 1073741824) = false := decide_eq_false h1
    clear hv h1
    go_enter Try.func28, Try.ntmps28
    go_wp2_with fail
    go_ret
    exact ⟨by rw [HV.out]; rfl, HB.out⟩
  have e1 : decide (b.prod ≤ 1073741824) = true := decide_eq_true h1
  by_cases h2 : 0 ≤ b.epoch
  case neg =>
    have HV : Hid (v = false) := Lib.hid (by rw [← hv]; unfold bnB witB; simp [h2])
    have e2 : decide (0 ≤ b.epoch) = false := decide_eq_false h2
    clear hv h2
    go_enter Try.func28, Try.ntmps28
    go_wp2_with fail
    go_ret
    exact ⟨by rw [HV.out]; rfl, HB.out⟩
  have e2 : decide (0 ≤ b.epoch) = true := decide_eq_true h2
  by_cases h3 : b.epoch ≤ 32768
  case neg =>
    have HV : Hid (v = false) := Lib.hid (by rw [← hv]; unfold bnB witB; simp [h3])
    have e3 : decide (b.epoch ≤ 32768) = false := decide_eq_false h3
    clear hv h3
    go_enter Try.func28, Try.ntmps28
    go_wp2_with fail
    go_ret
    exact ⟨by rw [HV.out]; rfl, HB.out⟩
  have e3 : decide (b.epoch ≤ 32768) = true := decide_eq_true h3
  by_cases h4 : 0 ≤ b.seq
  case neg =>
    have HV : Hid (v = false) := Lib.hid (by rw [← hv]; unfold bnB witB; simp [h4])
    have e4 : decide (0 ≤ b.seq) = false := decide_eq_false h4
    clear hv h4
    go_enter Try.func28, Try.ntmps28
    go_wp2_with fail
    go_ret
    exact ⟨by rw [HV.out]; rfl, HB.out⟩
  have e4 : decide (0 ≤ b.seq) = true := decide_eq_true h4
  by_cases h5 : b.seq ≤ 1073741824
  case neg =>
    have HV : Hid (v = false) := Lib.hid (by rw [← hv]; unfold bnB witB; simp [h5])
    have e5 : decide (b.seq ≤ 1073741824) = false := decide_eq_false h5
    clear hv h5
    go_enter Try.func28, Try.ntmps28
    go_wp2_with fail
    go_ret
    exact ⟨by rw [HV.out]; rfl, HB.out⟩
  have e5 : decide (b.seq ≤ 1073741824) = true := decide_eq_true h5
  by_cases h6 : 1 ≤ b.span
  case neg =>
    have HV : Hid (v = false) := Lib.hid (by rw [← hv]; unfold bnB witB; simp [h6])
    have e6 : decide (1 ≤ b.span) = false := decide_eq_false h6
    clear hv h6
    go_enter Try.func28, Try.ntmps28
    go_wp2_with fail
    go_ret
    exact ⟨by rw [HV.out]; rfl, HB.out⟩
  have e6 : decide (1 ≤ b.span) = true := decide_eq_true h6
  by_cases h7 : b.span ≤ 50
  case neg =>
    have HV : Hid (v = false) := Lib.hid (by rw [← hv]; unfold bnB witB; simp [h7])
    have e7 : decide (b.span ≤ 50) = false := decide_eq_false h7
    clear hv h7
    go_enter Try.func28, Try.ntmps28
    go_wp2_with fail
    go_ret
    exact ⟨by rw [HV.out]; rfl, HB.out⟩
  have e7 : decide (b.span ≤ 50) = true := decide_eq_true h7
  by_cases h8 : 0 ≤ b.base
  case neg =>
    have HV : Hid (v = false) := Lib.hid (by rw [← hv]; unfold bnB witB; simp [h8])
    have e8 : decide (0 ≤ b.base) = false := decide_eq_false h8
    clear hv h8
    go_enter Try.func28, Try.ntmps28
    go_wp2_with fail
    go_ret
    exact ⟨by rw [HV.out]; rfl, HB.out⟩
  have e8 : decide (0 ≤ b.base) = true := decide_eq_true h8
  by_cases h9 : b.base ≤ 1099511627776
  case neg =>
    have HV : Hid (v = false) := Lib.hid (by rw [← hv]; unfold bnB witB; simp [h9])
    have e9 : decide (b.base ≤ 1099511627776) = false := decide_eq_false h9
    clear hv h9
    go_enter Try.func28, Try.ntmps28
    go_wp2_with fail
    go_ret
    exact ⟨by rw [HV.out]; rfl, HB.out⟩
  have e9 : decide (b.base ≤ 1099511627776) = true := decide_eq_true h9
  have HV : Hid (v = true) := Lib.hid (by rw [← hv]; unfold bnB witB; simp [*])
  clear hv
  go_enter Try.func28, Try.ntmps28
  go_wp2_with fail
  go_ret
  exact ⟨by rw [HV.out]; rfl, HB.out⟩
end Go.Proofs.Ytdhakekndinbeaa
