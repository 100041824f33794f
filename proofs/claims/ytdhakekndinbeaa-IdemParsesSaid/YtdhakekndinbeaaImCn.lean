/- idem: Check of one that is none, by a contract. No condition. -/
import Derived.Test.YtdhakekndinbeaaImChk
namespace Go.Proofs.Ytdhakekndinbeaa
open Go.RowKit
set_option linter.unusedVariables false
set_option maxHeartbeats 16000000 in
set_option maxRecDepth 100000 in
theorem check_one_nil (b : BN) (A : Option Addr) (n c : Nat) (W : World) (hp : b.prod = -1) : Calls Try.prog 10 #[.pointer none, bnV b A n c] W (Good W (chkV 0 false 0)) := by
  have hz : (b.prod == (-1 : Int)) = true := by rw [hp]; rfl
  unfold bnV bnC chkV
  go_enter Try.func10, Try.ntmps10
  go_wp2_with fail
  go_ret3
  exact ⟨rfl, (Below.refl _ _).alloc (Nat.le_refl _) _⟩
set_option maxHeartbeats 16000000 in
set_option maxRecDepth 100000 in
theorem check_nil (b : BN) (A : Option Addr) (n c : Nat) (W : World) : Calls Try.prog 10 #[.pointer none, bnV b A n c] W (Good W (chkT (chkF [] b))) := by
  unfold chkF
  by_cases hp : b.prod = -1
  · rw [if_pos hp]
    exact check_one_nil b A n c W hp
  rw [if_neg hp]
  have hz : (b.prod == (-1 : Int)) = false := by simp [hp]
  have hB : Below W.heap.size W (W.alloc (.cells #[.int .i64 0, .int .i64 b.span, .int .i64 b.prod, .int .i64 b.epoch, .int .i64 b.seq, .slice A n c] 31)) := (Below.refl _ _).alloc (Nat.le_refl _) _
  have HX := Lib.hid (Box.new W 31 #[.int .i64 0, .int .i64 b.span, .int .i64 b.prod, .int .i64 b.epoch, .int .i64 b.seq, .slice A n c])
  have HB := Lib.hid hB
  have cm := fun w => mayBe_c { b with base := 0 } A n c w
  have hcs := fun (w : World) (h : Box w W.heap.size 31 #[.int .i64 0, .int .i64 b.span, .int .i64 b.prod, .int .i64 b.epoch, .int .i64 b.seq, .slice A n c]) => And.intro ((h.cell 1).trans (show _ = some (Value.int .i64 b.span) from rfl)) (And.intro ((h.cell 2).trans (show _ = some (Value.int .i64 b.prod) from rfl)) (And.intro ((h.cell 3).trans (show _ = some (Value.int .i64 b.epoch) from rfl)) (And.intro ((h.cell 4).trans (show _ = some (Value.int .i64 b.seq) from rfl)) h.lt)))
  clear hB
  cases hb : bnB { b with base := 0 } with
  | false =>
    rw [hb] at cm
    rw [if_neg (by decide)]
    clear hcs hb HX
    unfold bnV bnC chkT chkV at *
    simp only at cm ⊢
    go_enter Try.func10, Try.ntmps10
    go_wp2_with fail
    with_reducible refine (cm _).mono ?_
    rintro en w1 ⟨rfl, hb1⟩
    have HB1 := Lib.hid (HB.out.trans (hb1.mono HB.out.size))
    go_wp2_with fail
    go_ret3
    exact ⟨rfl, HB1.out⟩
  | true =>
    rw [hb] at cm
    rw [if_pos rfl]
    obtain ⟨b1, b2, b3, b4, b5⟩ := bnB_of hb
    simp only at b1 b2 b3 b4
    have hpi : i64B b.prod := by unfold i64B; omega
    have cf := fun w => find_nil b.prod w
    clear hb b5
    unfold bnV bnC at *
    simp only at cm ⊢
    obtain ⟨V, hV⟩ : ∃ V, chkT (chkO none b) = V := ⟨_, rfl⟩
    rw [show ofId [] b.prod = none from rfl, hV]
    have HV : Hid (V = if b.seq = 0 then chkV 0 false 0 else chkV 0 false 9) := Lib.hid (by
      rw [← hV]
      unfold chkO chkT
      simp only
      split <;> rfl)
    clear hV
    go_enter Try.func10, Try.ntmps10
    go_wp2_with fail
    with_reducible refine (cm _).mono ?_
    rintro en w1 ⟨rfl, hb1⟩
    have HB1 := Lib.hid (HB.out.trans (hb1.mono HB.out.size))
    have HX1 := Lib.hid (HX.out.later hb1)
    obtain ⟨z1, z2, z3, z4, z5⟩ := hcs _ HX1.out
    clear hb1 cm HX
    go_wp2_with fail
    with_reducible refine (cf _).mono ?_
    rintro en w2 ⟨rfl, hw⟩
    have hw' := hw.symm
    subst hw'
    by_cases hs : b.seq = 0
    · have HV1 : Hid (chkV 0 false 0 = V) := Lib.hid (by rw [HV.out, if_pos hs])
      have hs1 : (b.seq == (0 : Int)) = true := by rw [hs]; rfl
      go_wp2_with fail
      go_ret3
      exact ⟨congrArg _ HV1.out, HB1.out⟩
    · have HV1 : Hid (chkV 0 false 9 = V) := Lib.hid (by rw [HV.out, if_neg hs])
      have hs1 : (b.seq == (0 : Int)) = false := by simp [hs]
      go_wp2_with fail
      go_ret3
      exact ⟨congrArg _ HV1.out, HB1.out⟩
end Go.Proofs.Ytdhakekndinbeaa
