/- offsets: the law OffsetsNil walks to true. No condition. -/
import Derived.Test.YtlkhfgkgngcakaaOfLv
import Derived.Test.YtlkhfgkgngcakaaOfOp
namespace Go.Proofs.Ytlkhfgkgngcakaa
open Go.RowKit
set_option linter.unusedVariables false
set_option maxHeartbeats 16000000 in
set_option maxRecDepth 100000 in
theorem offsetsNil_walk0 (x : OO) (W : World) : Calls Try.prog 4 #[.agg #[.int .i64 x.do_, .string x.k.g, .string x.k.t, .int .i64 x.k.i, .int .i64 x.at_, .int .i64 x.r.place, .int .i64 x.r.time, .bool x.r.bare, .string x.r.key, .bool x.r.gone, .string x.r.value, .slice x.A x.r.heads.length x.c]] W (Yes W) := by
  have cn := fun w => new_no 0 (by decide +kernel) w
  have cg := fun w => oget_nil x.k w
  have cc := fun w => commit_nil x.k x.at_ w
  have cf := fun w => forget_nil x.k.g w
  have cd := fun w => drop_nil x.k.t w
  have ck := fun w => keys_nil w
  have ca := fun w => apply_nil x.r x.A x.c w
  have cl := fun w => live_c w
  unfold Yes at cl
  have HB := Lib.hid (Box.new W 38 #[.int .i64 x.do_, .string x.k.g, .string x.k.t, .int .i64 x.k.i, .int .i64 x.at_, .int .i64 x.r.place, .int .i64 x.r.time, .bool x.r.bare, .string x.r.key, .bool x.r.gone, .string x.r.value, .slice x.A x.r.heads.length x.c])
  have HW := Lib.hid ((Below.refl W.heap.size W).alloc (Nat.le_refl _) (.cells #[.int .i64 x.do_, .string x.k.g, .string x.k.t, .int .i64 x.k.i, .int .i64 x.at_, .int .i64 x.r.place, .int .i64 x.r.time, .bool x.r.bare, .string x.r.key, .bool x.r.gone, .string x.r.value, .slice x.A x.r.heads.length x.c] 38))
  go_enter Try.func4, Try.ntmps4
  go_wp2_with fail
  with_reducible refine (cn _).mono ?_
  rintro en w1 ⟨rfl, rfl⟩
  have z1 := (HB.out.cell 1).trans (show _ = some (Value.string x.k.g) from rfl)
  have z2 := (HB.out.cell 2).trans (show _ = some (Value.string x.k.t) from rfl)
  have z3 := (HB.out.cell 3).trans (show _ = some (Value.int .i64 x.k.i) from rfl)
  have zl := HB.out.lt
  go_wp2_with fail
  with_reducible refine (cg _).mono ?_
  rintro en w2 ⟨rfl, hb⟩
  replace HB := Lib.hid (HB.out.later hb)
  replace HW := Lib.hid (HW.out.trans (hb.mono HW.out.size))
  clear hb z1 z2 z3 zl
  have z1 := (HB.out.cell 1).trans (show _ = some (Value.string x.k.g) from rfl)
  have z2 := (HB.out.cell 2).trans (show _ = some (Value.string x.k.t) from rfl)
  have z3 := (HB.out.cell 3).trans (show _ = some (Value.int .i64 x.k.i) from rfl)
  have z4 := (HB.out.cell 4).trans (show _ = some (Value.int .i64 x.at_) from rfl)
  have zl := HB.out.lt
  go_wp2_with fail
  with_reducible refine (cc _).mono ?_
  rintro en w3 ⟨rfl, hb⟩
  replace HB := Lib.hid (HB.out.later hb)
  replace HW := Lib.hid (HW.out.trans (hb.mono HW.out.size))
  clear hb z1 z2 z3 z4 zl
  have z1 := (HB.out.cell 1).trans (show _ = some (Value.string x.k.g) from rfl)
  have zl := HB.out.lt
  go_wp2_with fail
  with_reducible refine (cf _).mono ?_
  rintro en w4 ⟨rfl, hb⟩
  replace HB := Lib.hid (HB.out.later hb)
  replace HW := Lib.hid (HW.out.trans (hb.mono HW.out.size))
  clear hb z1 zl
  have z2 := (HB.out.cell 2).trans (show _ = some (Value.string x.k.t) from rfl)
  have zl := HB.out.lt
  go_wp2_with fail
  with_reducible refine (cd _).mono ?_
  rintro en w5 ⟨rfl, hb⟩
  replace HB := Lib.hid (HB.out.later hb)
  replace HW := Lib.hid (HW.out.trans (hb.mono HW.out.size))
  clear hb z2 zl
  have zl := HB.out.lt
  go_wp2_with fail
  with_reducible refine (ck _).mono ?_
  rintro en w6 ⟨rfl, rfl⟩
  clear zl
  have z5 := (HB.out.cell 5).trans (show _ = some (Value.int .i64 x.r.place) from rfl)
  have z6 := (HB.out.cell 6).trans (show _ = some (Value.int .i64 x.r.time) from rfl)
  have z7 := (HB.out.cell 7).trans (show _ = some (Value.bool x.r.bare) from rfl)
  have z8 := (HB.out.cell 8).trans (show _ = some (Value.string x.r.key) from rfl)
  have z9 := (HB.out.cell 9).trans (show _ = some (Value.bool x.r.gone) from rfl)
  have z10 := (HB.out.cell 10).trans (show _ = some (Value.string x.r.value) from rfl)
  have z11 := (HB.out.cell 11).trans (show _ = some (Value.slice x.A x.r.heads.length x.c) from rfl)
  have zl := HB.out.lt
  go_wp2_with fail
  with_reducible refine (ca _).mono ?_
  rintro en w7 ⟨rfl, hb⟩
  replace HB := Lib.hid (HB.out.later hb)
  replace HW := Lib.hid (HW.out.trans (hb.mono HW.out.size))
  clear hb z5 z6 z7 z8 z9 z10 z11 zl
  go_wp2_with fail
  with_reducible refine (cl _).mono ?_
  rintro en w9 ⟨rfl, hb⟩
  have HW9 := Lib.hid (HW.out.trans (hb.mono HW.out.size))
  clear hb HW HB
  go_wp2_with fail
  go_ret
  exact ⟨rfl, HW9.out⟩
theorem offsetsNil_walk (x : OO) (W : World) (hx : OOk W x) : Calls Try.prog 4 #[.agg (ooL x).toArray] W (Yes W) := offsetsNil_walk0 x W
end Go.Proofs.Ytlkhfgkgngcakaa
