/- member: MemberNil, walked. No condition. -/
import Derived.Test.YtlojecfnbcckjaaMbLiv
namespace Go.Proofs.Ytlojecfnbcckjaa
open Go.RowKit
set_option linter.unusedVariables false
theorem join_none (m now : Int) (n : Nat) (A : Option Addr) (c : Nat) (W : World) : Calls Try.prog 10 #[.pointer none, .int .i64 m, .slice A n c, .int .i64 now] W (fun e w' => e = .returned (.tuple #[.int .i64 0, .int .i64 1]) ∧ w' = W) := by
  have ct := fun w => takes_nil now w
  go_enter Try.func10, Try.ntmps10
  go_wp2_with fail
  with_reducible refine (ct _).mono ?_
  rintro e w1 ⟨rfl, rfl⟩
  go_wp2_with fail
  go_ret2
  exact ⟨rfl, rfl⟩
theorem op7 {w : World} {b : Nat} {t : TypeId} {v0 v1 v2 v3 v4 v5 v6 : Value} (h : Box w b t #[v0, v1, v2, v3, v4, v5, v6]) : w.cell? ⟨b, 0, none⟩ = some v0 ∧ w.cell? ⟨b, 1, none⟩ = some v1 ∧ w.cell? ⟨b, 2, none⟩ = some v2 ∧ w.cell? ⟨b, 3, none⟩ = some v3 ∧ w.cell? ⟨b, 4, none⟩ = some v4 ∧ w.cell? ⟨b, 5, none⟩ = some v5 ∧ w.cell? ⟨b, 6, none⟩ = some v6 ∧ b < w.heap.size :=
  ⟨(h.cell 0).trans rfl, (h.cell 1).trans rfl, (h.cell 2).trans rfl, (h.cell 3).trans rfl, (h.cell 4).trans rfl, (h.cell 5).trans rfl, (h.cell 6).trans rfl, h.lt⟩
set_option maxHeartbeats 16000000 in
set_option maxRecDepth 100000 in
theorem memberNil_w (d m : Int) (TA : Option Addr) (n c : Nat) (gen : Int) (PA : Option Addr) (n2 c2 : Nat) (rnd : Bool) (now : Int) (W : World) :
    Calls Try.prog 3 #[.agg #[.int .i64 d, .int .i64 m, .slice TA n c, .int .i64 gen, .slice PA n2 c2, .bool rnd, .int .i64 now]] W (Good W (.bool true)) := by
  have hbx := Box.new W 25 #[.int .i64 d, .int .i64 m, .slice TA n c, .int .i64 gen, .slice PA n2 c2, .bool rnd, .int .i64 now]
  have hB : Below W.heap.size W (W.alloc (.cells #[.int .i64 d, .int .i64 m, .slice TA n c, .int .i64 gen, .slice PA n2 c2, .bool rnd, .int .i64 now] 25)) := (Below.refl _ _).alloc (Nat.le_refl _) _
  have c1 := fun w => new_no 0 0 rfl w
  have c2' := fun w => join_none m now n TA c w
  have c3 := fun w => sync_nil m gen now PA n2 c2 rnd w
  have c4 := fun w => tick_nil now w
  have c5 := fun w => view_nil w
  have c6 := fun w => beat_nil m gen now w
  have c7 := fun w => leave_nil m now w
  have c8 := fun w => knows_nil m gen w
  have c9 := fun w => live15_c w
  obtain ⟨x0, x1, x2, x3, x4, x5, x6, xl⟩ := op7 hbx
  have HX := Lib.hid hbx
  have HB := Lib.hid hB
  clear hbx hB
  go_enter Try.func3, Try.ntmps3
  go_wp2_with fail
  with_reducible refine (c1 _).mono ?_
  rintro e w1 ⟨rfl, hw⟩
  subst hw
  go_wp2_with fail
  with_reducible refine (c2' _).mono ?_
  rintro e w1 ⟨rfl, hw⟩
  subst hw
  go_wp2_with fail
  with_reducible refine (c3 _).mono ?_
  rintro e w1 ⟨rfl, hw⟩
  subst hw
  go_wp2_with fail
  with_reducible refine (c4 _).mono ?_
  rintro e w2 ⟨rfl, hb2⟩
  have HX2 := Lib.hid (HX.out.later hb2)
  have HB2 := Lib.hid (HB.out.trans (hb2.mono HB.out.size))
  clear hb2 x0 x1 x2 x3 x4 x5 x6 xl c1 c2' c3 c4 HX HB
  go_wp2_with fail
  with_reducible refine (c5 _).mono ?_
  rintro e w3 ⟨v3, R3, rfl, ho3, -, hab, hb3⟩
  have hR3 : R3 = [] := by simpa using hab
  subst hR3
  obtain ⟨A3, k3, ev3⟩ := own_slice ho3
  subst ev3
  have hX3 := HX2.out.later hb3
  have hA : Below w3.heap.size w3 (w3.alloc (.cells #[.int .i64 0, .int .i64 0, .int .i64 0, .int .i64 0, .slice A3 0 k3] 38)) := (Below.refl _ _).alloc (Nat.le_refl _) _
  have hXa := hX3.later hA
  obtain ⟨x0, x1, x2, x3, x4, x5, x6, xl⟩ := op7 hXa
  have HXa := Lib.hid hXa
  have HY := Lib.hid (Box.new w3 38 #[.int .i64 0, .int .i64 0, .int .i64 0, .int .i64 0, .slice A3 0 k3])
  have HB3 := Lib.hid ((HB2.out.trans (hb3.mono HB2.out.size)).trans (hA.mono (Nat.le_trans HB2.out.size hb3.size)))
  clear ho3 hab hb3 hX3 hA hXa c5
  generalize hn3 : w3.heap.size = n3 at *
  go_wp2_with fail
  with_reducible refine (c6 _).mono ?_
  rintro e w4 ⟨rfl, hw⟩
  subst hw
  go_wp2_with fail
  with_reducible refine (c7 _).mono ?_
  rintro e w5 ⟨rfl, hb5⟩
  have hX5 := HXa.out.later hb5
  have hY5 := HY.out.later hb5
  obtain ⟨y0, y1, y2, y3, y4, y5, y6, yl⟩ := op7 hX5
  obtain ⟨⟨s0, s1, s2, s3, s4⟩, sl, _⟩ := vw5 hY5
  have HB5 := Lib.hid (HB3.out.trans (hb5.mono HB3.out.size))
  clear hb5 hX5 hY5 x0 x1 x2 x3 x4 x5 x6 xl c6 c7
  go_wp2_with fail
  with_reducible refine (c8 _).mono ?_
  rintro e w6 ⟨rfl, hw⟩
  subst hw
  go_wp2_with fail
  with_reducible refine (c9 _).mono ?_
  rintro e w7 ⟨rfl, hb7⟩
  go_wp2_with fail
  go_ret
  exact ⟨rfl, HB5.out.trans (hb7.mono HB5.out.size)⟩
end Go.Proofs.Ytlojecfnbcckjaa
