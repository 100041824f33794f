/- Merged texts. What each proves is told at its head. -/
import Derived.Test.YtjnphajkoopkgaaGreatDoorQU
import Derived.Test.YtjnphajkoopkgaaGreatDoorQO
import Derived.Test.YtjnphajkoopkgaaGreatDoorQA
/- segment: a segment that is none has nothing: the law's walk. No condition. -/
namespace Go.Proofs.YtjnphajkoopkgaaGreatDoor
open Go.RowKit
set_option linter.unusedVariables false
def nlC (d : Int) (b : BN) (A : Option Addr) (l c : Nat) (n m : Int) (K : Value) (tx : ByteArray) : Array Value := #[.int .i64 d, .int .i64 b.base, .int .i64 b.span, .int .i64 b.prod, .int .i64 b.epoch, .int .i64 b.seq, .slice A l c, .int .i64 n, .int .i64 m, K, .string tx]
/-- What stands at each step: the box of the argument. -/
structure NlS (W : World) (g : Nat) (cs : Array Value) (w : World) : Prop where
  box : Box w g 47 cs
  bel : Below W.heap.size W w
theorem NlS.later {W w w' : World} {g : Nat} {cs : Array Value} (h : NlS W g cs w) (hb : Below w.heap.size w w') : NlS W g cs w' := ⟨h.box.later hb, h.bel.trans (hb.mono h.bel.size)⟩
theorem nl_cells {W w : World} {g : Nat} {d : Int} {b : BN} {A : Option Addr} {l c : Nat} {n m : Int} {K : Value} {tx : ByteArray} (h : NlS W g (nlC d b A l c n m K tx) w) :
    w.cell? ⟨g, 1, none⟩ = some (.int .i64 b.base) ∧ w.cell? ⟨g, 2, none⟩ = some (.int .i64 b.span) ∧ w.cell? ⟨g, 3, none⟩ = some (.int .i64 b.prod) ∧ w.cell? ⟨g, 4, none⟩ = some (.int .i64 b.epoch) ∧ w.cell? ⟨g, 5, none⟩ = some (.int .i64 b.seq) ∧ w.cell? ⟨g, 6, none⟩ = some (.slice A l c) ∧ w.cell? ⟨g, 7, none⟩ = some (.int .i64 n) ∧ w.cell? ⟨g, 8, none⟩ = some (.int .i64 m) ∧ g < w.heap.size :=
  ⟨h.box.cell 1, h.box.cell 2, h.box.cell 3, h.box.cell 4, h.box.cell 5, h.box.cell 6, h.box.cell 7, h.box.cell 8, h.box.lt⟩
set_option maxHeartbeats 16000000 in
set_option maxRecDepth 100000 in
theorem segmentNil_walk (x : OS) (W : World) (hx : OSk W x) (hT : Tab W) : Calls Tryz.prog 4 #[.agg (osL x).toArray] W (Good W (.bool true)) := by
  obtain ⟨d, b, R, A, c, n, m, K, tx⟩ := x
  obtain ⟨hin, hlen, htx⟩ := hx
  have hB := Box.new W 47 #[.int .i64 d, .int .i64 b.base, .int .i64 b.span, .int .i64 b.prod, .int .i64 b.epoch, .int .i64 b.seq, .slice A R.length c, .int .i64 n, .int .i64 m, K, .string tx]
  have hb0 : Below W.heap.size W (W.alloc (.cells #[.int .i64 d, .int .i64 b.base, .int .i64 b.span, .int .i64 b.prod, .int .i64 b.epoch, .int .i64 b.seq, .slice A R.length c, .int .i64 n, .int .i64 m, K, .string tx] 47)) := (Below.refl _ _).alloc (Nat.le_refl _) _
  have cs := rsmall_c b R A c _ (hin.below hb0) hlen
  have HT := Lib.hid hT
  have HB : Hid (NlS W W.heap.size (nlC d b A R.length c n m K tx) _) := Lib.hid ⟨hB, hb0⟩
  dsimp only at *
  unfold osL bnC at *
  clear hin hlen htx hT hB hb0
  go_enter Tryz.func4, Tryz.ntmps4
  go_wp2_with fail
  (with_reducible refine cs.mono ?_)
  rintro e w1 ⟨res, rfl, _, hb1⟩
  have HB1 := Lib.hid (HB.out.later hb1)
  clear cs hb1 HB
  cases res with
  | false =>
    have cl := live10_c w1 (HT.out.below HB1.out.bel)
    go_wp2_with fail
    (with_reducible refine cl.mono ?_)
    rintro e w2 ⟨rfl, hb⟩
    have HB2 := Lib.hid (HB1.out.later hb)
    clear cl hb HB1
    go_wp2_with fail
    go_ret
    exact ⟨rfl, HB2.out.bel⟩
  | true =>
    have c1 := open_nil ⟨#[97]⟩ 0 1 w1
    go_wp2_with fail
    (with_reducible refine c1.mono ?_)
    rintro e w2 ⟨rfl, hb⟩
    have HB2 := Lib.hid (HB1.out.later hb)
    have c2 := after_nil n w2
    obtain ⟨z1, z2, z3, z4, z5, z6, z7, z8, zl⟩ := nl_cells HB2.out
    clear c1 hb HB1
    go_wp2_with fail
    (with_reducible refine c2.mono ?_)
    rintro e w3 ⟨rfl, hb⟩
    have HB3 := Lib.hid (HB2.out.later hb)
    have c3 := append_nil b (.slice A R.length c) w3
    unfold bnC at c3
    clear c2 hb HB2 z1 z2 z3 z4 z5 z6 z7 z8 zl
    obtain ⟨z1, z2, z3, z4, z5, z6, z7, z8, zl⟩ := nl_cells HB3.out
    go_wp2_with fail
    (with_reducible refine c3.mono ?_)
    rintro e w4 ⟨rfl, hb⟩
    have HB4 := Lib.hid (HB3.out.later hb)
    have c4 := sync_nil w4
    clear c3 hb HB3 z1 z2 z3 z4 z5 z6 z7 z8 zl
    go_wp2_with fail
    (with_reducible refine c4.mono ?_)
    rintro e w5 ⟨rfl, hb⟩
    have HB5 := Lib.hid (HB4.out.later hb)
    have c5 := sread_nil n m w5
    obtain ⟨z1, z2, z3, z4, z5, z6, z7, z8, zl⟩ := nl_cells HB5.out
    clear c4 hb HB4
    go_wp2_with fail
    (with_reducible refine c5.mono ?_)
    rintro e w6 ⟨rfl, hb⟩
    have HB6 := Lib.hid (HB5.out.later hb)
    have c6 := base_nil w6
    clear c5 hb HB5 z1 z2 z3 z4 z5 z6 z7 z8 zl
    go_wp2_with fail
    (with_reducible refine c6.mono ?_)
    rintro e w7 ⟨rfl, hb⟩
    have HB7 := Lib.hid (HB6.out.later hb)
    have c7 := end_nil w7
    clear c6 hb HB6
    go_wp2_with fail
    (with_reducible refine c7.mono ?_)
    rintro e w8 ⟨rfl, hb⟩
    have HB8 := Lib.hid (HB7.out.later hb)
    have c8 := size_nil w8
    clear c7 hb HB7
    go_wp2_with fail
    (with_reducible refine c8.mono ?_)
    rintro e w9 ⟨rfl, hb⟩
    have HB9 := Lib.hid (HB8.out.later hb)
    have c9 := live10_c w9 (HT.out.below HB9.out.bel)
    clear c8 hb HB8
    go_wp2_with fail
    (with_reducible refine c9.mono ?_)
    rintro e w10 ⟨rfl, hb⟩
    have HB10 := Lib.hid (HB9.out.later hb)
    clear c9 hb HB9
    go_wp2_with fail
    go_ret
    exact ⟨rfl, HB10.out.bel⟩
end Go.Proofs.YtjnphajkoopkgaaGreatDoor
