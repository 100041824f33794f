/- The law's live: some answers that the document gives, by the contracts. -/
import Derived.Test.YtogfakcnjoilfaaRecEnc
import Derived.Test.YtogfakcnjoilfaaRecDec2
import Derived.KernelRfl
namespace Go.Proofs.Ytogfakcnjoilfaa
open Go.RowKit
set_option linter.unusedVariables false
def liveR : Rec := ⟨0, 0, false, ⟨#[107]⟩, false, ⟨#[118]⟩, []⟩
def liveB : Rec := ⟨50, 0, false, ⟨#[]⟩, false, ⟨#[]⟩, []⟩
theorem rin_nil (r : Rec) (W : World) (h : r.heads = []) (hk : r.key.size ≤ 1152921504606846976) (hv : r.value.size ≤ 1152921504606846976) : RIn W r none 0 :=
  ⟨by rw [h]; exact HIn.nil _ _, by rw [h]; simp, hk, hv, by rw [h]; simp⟩
def LiveD (W : World) (k v : ByteArray) (q e : Int) (en : Ending) (w' : World) : Prop :=
  ∃ A c, en = .returned (.tuple #[.agg #[.int .i64 0, .int .i64 0, .bool false, .string k, .bool false, .string v, .slice A 0 c], .int .i64 q, .int .i64 e]) ∧ Below W.heap.size W w'
set_option maxHeartbeats 2000000 in
set_option maxRecDepth 100000 in
theorem live_c (W : World) : Calls Try.prog 11 #[] W (Good W (.bool true)) := by
  have e1 := fun w => enc_c liveR none 0 w (rin_nil _ _ rfl (by decide) (by decide))
  rw [show okRec liveR = true by decide +kernel, if_pos rfl, show encR liveR = ⟨#[0, 0, 0, 2, 107, 2, 118, 0]⟩ by decide +kernel, show recE liveR = 0 by decide +kernel] at e1
  have e2 := fun w => enc_c liveB none 0 w (rin_nil _ _ rfl (by decide) (by decide))
  rw [show okRec liveB = false by decide +kernel, show recE liveB = 1 by decide +kernel] at e2
  have D1 : Hid (∀ w, Calls Try.prog 18 #[.string ⟨#[120, 0, 0, 0, 2, 107, 2, 118, 0]⟩, .int .i64 1] w (LiveD w ⟨#[107]⟩ ⟨#[118]⟩ 9 0)) := Lib.hid (fun w => by
    have d1 := pdec_c ⟨#[120, 0, 0, 0, 2, 107, 2, 118, 0]⟩ 1 w (by decide)
    rw [show decR ⟨#[120, 0, 0, 0, 2, 107, 2, 118, 0]⟩ 1 = (liveR, 9, 0) by kernel_rfl] at d1
    exact d1.mono fun e w' ⟨A, c, he, _, hb⟩ => ⟨A, c, he, hb⟩)
  have D2 : Hid (∀ w, Calls Try.prog 18 #[.string ⟨#[0, 0, 0]⟩, .int .i64 0] w (LiveD w ⟨#[]⟩ ⟨#[]⟩ 0 2)) := Lib.hid (fun w => by
    have d2 := pdec_c ⟨#[0, 0, 0]⟩ 0 w (by decide)
    rw [show decR ⟨#[0, 0, 0]⟩ 0 = (recZero, 0, 2) by kernel_rfl] at d2
    exact d2.mono fun e w' ⟨A, c, he, _, hb⟩ => ⟨A, c, he, hb⟩)
  unfold recV recC liveR at e1
  unfold recV recC liveB at e2
  simp only [Bool.false_eq_true, if_false, List.length_nil] at e1 e2
  have k1 : ∀ w, (Op.stringOp .add ⟨#[120]⟩ ⟨#[0, 0, 0, 2, 107, 2, 118, 0]⟩).run Try.prog w = .ok (.string ⟨#[120, 0, 0, 0, 2, 107, 2, 118, 0]⟩) w := fun w => run_string_add_sum (w := w) _ _ (by decide)
  have k2 : ∀ w, (Instr.slice 9 (.string ⟨#[0, 0, 0, 2, 107, 2, 118, 0]⟩) none (some (.int .i64 3)) none).run Try.prog w = .ok (.string ⟨#[0, 0, 0]⟩) w := fun w => by kernel_rfl
  have E1 := Lib.hid e1
  have E2 := Lib.hid e2
  clear e1 e2
  go_enter Try.func11, Try.ntmps11
  go_wp2_with fail
  (with_reducible refine (E1.out _).mono ?_)
  rintro e w1 ⟨rfl, hb1⟩
  go_wp2_with fail
  (with_reducible refine (D1.out _).mono ?_)
  rintro e w2 ⟨A, c, rfl, hb2⟩
  have hbx : Box (w2.alloc (.cells #[.int .i64 0, .int .i64 0, .bool false, .string ⟨#[107]⟩, .bool false, .string ⟨#[118]⟩, .slice A 0 c] 24)) w2.heap.size 24 #[.int .i64 0, .int .i64 0, .bool false, .string ⟨#[107]⟩, .bool false, .string ⟨#[118]⟩, .slice A 0 c] := Box.new _ _ _
  have HBX := Lib.hid hbx
  clear hbx
  have hb3 : Below W.heap.size W (w2.alloc (.cells #[.int .i64 0, .int .i64 0, .bool false, .string ⟨#[107]⟩, .bool false, .string ⟨#[118]⟩, .slice A 0 c] 24)) := (bjoin hb1 hb2 rfl rfl).alloc (Nat.le_trans hb1.size hb2.size) _
  have HB3 := Lib.hid hb3
  clear hb1 hb2 hb3
  go_wp2_with fail
  (with_reducible refine (E2.out _).mono ?_)
  rintro e w4 ⟨rfl, hb4⟩
  have HX4 := Lib.hid (HBX.out.later hb4)
  have HB4 := Lib.hid (bjoin HB3.out hb4 rfl rfl)
  clear hb4 HBX HB3
  go_wp2_with fail
  rw [show (⟨#[0, 0, 0, 2, 107, 2, 118, 0]⟩ : ByteArray).extract 0 (min (8 : Int) 3).toNat = ⟨#[0, 0, 0]⟩ by decide +kernel]
  (with_reducible refine (D2.out _).mono ?_)
  rintro e w5 ⟨A2, c2, rfl, hb5⟩
  have HX5 := Lib.hid ((HX4.out.later hb5).alloc (.cells #[.int .i64 0, .int .i64 0, .bool false, .string ⟨#[]⟩, .bool false, .string ⟨#[]⟩, .slice A2 0 c2] 24))
  have HB5 := Lib.hid ((bjoin HB4.out hb5 rfl rfl).alloc (Nat.le_trans HB4.out.size hb5.size) (.cells #[.int .i64 0, .int .i64 0, .bool false, .string ⟨#[]⟩, .bool false, .string ⟨#[]⟩, .slice A2 0 c2] 24))
  clear hb5 HX4 HB4
  have y3 := (HX5.out.cell 3).trans (show _ = some (Value.string ⟨#[107]⟩) from rfl)
  go_wp2
  go_ret
  exact ⟨rfl, HB5.out⟩
end Go.Proofs.Ytogfakcnjoilfaa
