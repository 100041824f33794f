/- idem: a producer's block, its window, as told. Plain words. No condition. -/
import Derived.Test.YtdhakekndinbeaaNum
import Derived.Test.YtdhakekndinbeaaMem
import Derived.Maps.Own
import Derived.Maps.OwnSet
import Derived.KernelRfl
import Derived.WalkKit
import Derived.ProofKit
import Derived.BigQuiet
import Derived.Deep.QuietTactic
import Derived.Deep.RegionHeld3
import Derived.Deep.RegionWith
namespace Go.Proofs.Ytdhakekndinbeaa
open Go.RowKit
set_option linter.unusedVariables false
/-- One of a window: Seq, Base, Span. -/
abbrev SN := Int × Int × Int
def snV (s : SN) : Value := .agg #[.int .i64 s.1, .int .i64 s.2.1, .int .i64 s.2.2]
/-- A producer's cells: its epoch, its ring, where it begins, of how many it is. -/
def prC (e : Int) (R : Nat → SN) (f c : Nat) : Array Value := #[.int .i64 e, .int .i64 (R 0).1, .int .i64 (R 0).2.1, .int .i64 (R 0).2.2, .int .i64 (R 1).1, .int .i64 (R 1).2.1, .int .i64 (R 1).2.2, .int .i64 (R 2).1, .int .i64 (R 2).2.1, .int .i64 (R 2).2.2,
  .int .i64 (R 3).1, .int .i64 (R 3).2.1, .int .i64 (R 3).2.2, .int .i64 (R 4).1, .int .i64 (R 4).2.1, .int .i64 (R 4).2.2, .int .i64 (f : Int), .int .i64 (c : Int)]
/-- What the window tells. -/
def winL (R : Nat → SN) (f c : Nat) : List SN := (List.range c).map fun i => R ((f + i) % 5)
theorem winL_len (R : Nat → SN) (f c : Nat) : (winL R f c).length = c := by simp [winL]
theorem winL_at {R : Nat → SN} {f c i : Nat} (h : i < c) : (winL R f c)[i]? = some (R ((f + i) % 5)) := by
  unfold winL
  rw [List.getElem?_map, List.getElem?_range h]
  rfl
structure PrIs (w : World) (b : Nat) (e : Int) (R : Nat → SN) (f c : Nat) : Prop where
  box : Box w b 67 (prC e R f c)
  f5 : f < 5
  c5 : c ≤ 5
theorem PrIs.later {w w' : World} {b f c : Nat} {e : Int} {R : Nat → SN} (h : PrIs w b e R f c) (hb : Below w.heap.size w w') : PrIs w' b e R f c := ⟨h.box.later hb, h.f5, h.c5⟩
theorem PrIs.cells {w : World} {b f c : Nat} {e : Int} {R : Nat → SN} (h : PrIs w b e R f c) : w.cell? ⟨b, 0, none⟩ = some (.int .i64 e) ∧ w.cell? ⟨b, 16, none⟩ = some (.int .i64 (f : Int)) ∧ w.cell? ⟨b, 17, none⟩ = some (.int .i64 (c : Int)) ∧ b < w.heap.size :=
  ⟨(h.box.cell 0).trans rfl, (h.box.cell 16).trans rfl, (h.box.cell 17).trans rfl, h.box.lt⟩
theorem PrIs.ring {w : World} {b f c k : Nat} {e : Int} {R : Nat → SN} (h : PrIs w b e R f c) (hk : k < 5) : w.cell? ⟨b, 1 + k * 3, none⟩ = some (.int .i64 (R k).1) ∧ w.cell? ⟨b, 1 + k * 3 + 1, none⟩ = some (.int .i64 (R k).2.1) ∧ w.cell? ⟨b, 1 + k * 3 + 2, none⟩ = some (.int .i64 (R k).2.2) := by
  match k, hk with
  | 0, _ => exact ⟨(h.box.cell 1).trans rfl, (h.box.cell 2).trans rfl, (h.box.cell 3).trans rfl⟩
  | 1, _ => exact ⟨(h.box.cell 4).trans rfl, (h.box.cell 5).trans rfl, (h.box.cell 6).trans rfl⟩
  | 2, _ => exact ⟨(h.box.cell 7).trans rfl, (h.box.cell 8).trans rfl, (h.box.cell 9).trans rfl⟩
  | 3, _ => exact ⟨(h.box.cell 10).trans rfl, (h.box.cell 11).trans rfl, (h.box.cell 12).trans rfl⟩
  | 4, _ => exact ⟨(h.box.cell 13).trans rfl, (h.box.cell 14).trans rfl, (h.box.cell 15).trans rfl⟩
theorem below_drewN {B : Nat} {a w : World} (h : Below B a w) (n : Nat) : Below B a (w.drewN n) := ⟨h.os, h.tape, h.output, h.size, h.block⟩
/-- Is a number within bounds? -/
def witB (n l m : Int) : Bool := decide (l ≤ n) && decide (n ≤ m)
theorem within_c (n l m : Int) (W : World) : Calls Try.prog 42 #[.int .i64 n, .int .i64 l, .int .i64 m] W (fun e w' => e = .returned (.bool (witB n l m)) ∧ w' = W) := by
  unfold witB
  by_cases h : l ≤ n
  · rw [decide_eq_true h]
    go_enter Try.func42, Try.ntmps42
    go_wp2
    go_ret
    exact ⟨by simp, rfl⟩
  · rw [decide_eq_false h]
    go_enter Try.func42, Try.ntmps42
    go_wp2
    go_ret
    exact ⟨rfl, rfl⟩
/-- A batch's numbers: Base, Span, Producer, Epoch, Seq. -/
structure BN where
  base : Int
  span : Int
  prod : Int
  epoch : Int
  seq : Int
def bnC (b : BN) (A : Option Addr) (n c : Nat) : Array Value := #[.int .i64 b.base, .int .i64 b.span, .int .i64 b.prod, .int .i64 b.epoch, .int .i64 b.seq, .slice A n c]
def bnV (b : BN) (A : Option Addr) (n c : Nat) : Value := .agg (bnC b A n c)
/-- May they be? -/
def bnB (b : BN) : Bool := witB b.prod 0 1073741824 && (witB b.epoch 0 32768 && (witB b.seq 0 1073741824 && (witB b.span 1 50 && witB b.base 0 1099511627776)))
set_option maxHeartbeats 4000000 in
theorem mayBe_c (b : BN) (A : Option Addr) (n c : Nat) (W : World) : Calls Try.prog 24 #[bnV b A n c] W (Good W (.bool (bnB b))) := by
  have hB : Below W.heap.size W (W.alloc (.cells #[.int .i64 b.base, .int .i64 b.span, .int .i64 b.prod, .int .i64 b.epoch, .int .i64 b.seq, .slice A n c] 31)) := (Below.refl _ _).alloc (Nat.le_refl _) _
  have c1 := fun w => within_c b.prod 0 1073741824 w
  have c2 := fun w => within_c b.epoch 0 32768 w
  have c3 := fun w => within_c b.seq 0 1073741824 w
  have c4 := fun w => within_c b.span 1 50 w
  have c5 := fun w => within_c b.base 0 1099511627776 w
  unfold bnB bnV bnC
  cases h1 : witB b.prod 0 1073741824 with
  | false =>
    rw [h1] at c1
    go_enter Try.func24, Try.ntmps24
    go_wp2_with (first | ((with_reducible refine (c1 _).mono ?_); rintro e w1 ⟨rfl, hw⟩; (have hw' := hw.symm; subst hw')) | ((with_reducible refine (c2 _).mono ?_); rintro e w1 ⟨rfl, hw⟩; (have hw' := hw.symm; subst hw')) | ((with_reducible refine (c3 _).mono ?_); rintro e w1 ⟨rfl, hw⟩; (have hw' := hw.symm; subst hw')) | ((with_reducible refine (c4 _).mono ?_); rintro e w1 ⟨rfl, hw⟩; (have hw' := hw.symm; subst hw')) | ((with_reducible refine (c5 _).mono ?_); rintro e w1 ⟨rfl, hw⟩; (have hw' := hw.symm; subst hw')))
    go_ret
    exact ⟨by simp, hB⟩
  | true =>
    rw [h1] at c1
    cases h2 : witB b.epoch 0 32768 with
    | false =>
      rw [h2] at c2
      go_enter Try.func24, Try.ntmps24
      go_wp2_with (first | ((with_reducible refine (c1 _).mono ?_); rintro e w1 ⟨rfl, hw⟩; (have hw' := hw.symm; subst hw')) | ((with_reducible refine (c2 _).mono ?_); rintro e w1 ⟨rfl, hw⟩; (have hw' := hw.symm; subst hw')) | ((with_reducible refine (c3 _).mono ?_); rintro e w1 ⟨rfl, hw⟩; (have hw' := hw.symm; subst hw')) | ((with_reducible refine (c4 _).mono ?_); rintro e w1 ⟨rfl, hw⟩; (have hw' := hw.symm; subst hw')) | ((with_reducible refine (c5 _).mono ?_); rintro e w1 ⟨rfl, hw⟩; (have hw' := hw.symm; subst hw')))
      go_ret
      exact ⟨by simp, hB⟩
    | true =>
      rw [h2] at c2
      cases h3 : witB b.seq 0 1073741824 with
      | false =>
        rw [h3] at c3
        go_enter Try.func24, Try.ntmps24
        go_wp2_with (first | ((with_reducible refine (c1 _).mono ?_); rintro e w1 ⟨rfl, hw⟩; (have hw' := hw.symm; subst hw')) | ((with_reducible refine (c2 _).mono ?_); rintro e w1 ⟨rfl, hw⟩; (have hw' := hw.symm; subst hw')) | ((with_reducible refine (c3 _).mono ?_); rintro e w1 ⟨rfl, hw⟩; (have hw' := hw.symm; subst hw')) | ((with_reducible refine (c4 _).mono ?_); rintro e w1 ⟨rfl, hw⟩; (have hw' := hw.symm; subst hw')) | ((with_reducible refine (c5 _).mono ?_); rintro e w1 ⟨rfl, hw⟩; (have hw' := hw.symm; subst hw')))
        go_ret
        exact ⟨by simp, hB⟩
      | true =>
        rw [h3] at c3
        cases h4 : witB b.span 1 50 with
        | false =>
          rw [h4] at c4
          go_enter Try.func24, Try.ntmps24
          go_wp2_with (first | ((with_reducible refine (c1 _).mono ?_); rintro e w1 ⟨rfl, hw⟩; (have hw' := hw.symm; subst hw')) | ((with_reducible refine (c2 _).mono ?_); rintro e w1 ⟨rfl, hw⟩; (have hw' := hw.symm; subst hw')) | ((with_reducible refine (c3 _).mono ?_); rintro e w1 ⟨rfl, hw⟩; (have hw' := hw.symm; subst hw')) | ((with_reducible refine (c4 _).mono ?_); rintro e w1 ⟨rfl, hw⟩; (have hw' := hw.symm; subst hw')) | ((with_reducible refine (c5 _).mono ?_); rintro e w1 ⟨rfl, hw⟩; (have hw' := hw.symm; subst hw')))
          go_ret
          exact ⟨by simp, hB⟩
        | true =>
          rw [h4] at c4
          go_enter Try.func24, Try.ntmps24
          go_wp2_with (first | ((with_reducible refine (c1 _).mono ?_); rintro e w1 ⟨rfl, hw⟩; (have hw' := hw.symm; subst hw')) | ((with_reducible refine (c2 _).mono ?_); rintro e w1 ⟨rfl, hw⟩; (have hw' := hw.symm; subst hw')) | ((with_reducible refine (c3 _).mono ?_); rintro e w1 ⟨rfl, hw⟩; (have hw' := hw.symm; subst hw')) | ((with_reducible refine (c4 _).mono ?_); rintro e w1 ⟨rfl, hw⟩; (have hw' := hw.symm; subst hw')) | ((with_reducible refine (c5 _).mono ?_); rintro e w1 ⟨rfl, hw⟩; (have hw' := hw.symm; subst hw')))
          go_ret
          exact ⟨by simp, hB⟩
theorem at_result {w : World} (g : Nat) {v0 v1 v2 : Value} (h : Box w g 62 #[v0, v1, v2]) (tmps : Array Value) (ht : (tmps[4]?).getD undef = .pointer (some ⟨g, 0, none⟩)) :
    (results Try.f38 tmps).run Try.prog w = .ok (.agg #[v0, v1, v2]) w := by
  have c0 := (h.cell 0).trans (show _ = some v0 from rfl)
  have c1 := (h.cell 1).trans (show _ = some v1 from rfl)
  have c2 := (h.cell 2).trans (show _ = some v2 from rfl)
  simp [results, Try.results38, go_sem, ht, c0, c1, c2]
set_option maxHeartbeats 4000000 in
set_option maxRecDepth 100000 in
theorem at_c (b : Nat) (e : Int) (R : Nat → SN) (f c i : Nat) (W : World) (h : PrIs W b e R f c) (hi : i < 5) :
    Calls Try.prog 38 #[.pointer (some ⟨b, 1, none⟩), .int .i64 (i : Int)] W (Good W (snV (R ((f + i) % 5)))) := by
  obtain ⟨_, x1, _, hlt⟩ := h.cells
  have hf := h.f5
  obtain ⟨k, hk⟩ : ∃ k, (f + i) % 5 = k := ⟨_, rfl⟩
  have hk5 : k < 5 := by rw [← hk]; exact Nat.mod_lt _ (by decide)
  obtain ⟨r0, r1, r2⟩ := h.ring hk5
  have hw : IntKind.i64.wrap ((f : Int) + (i : Int)) = (f : Int) + (i : Int) := by rw [IntKind.wrap_i64]; omega
  have hm : Int.tmod ((f : Int) + (i : Int)) 5 = (k : Int) := by rw [Int.tmod_eq_emod_of_nonneg (by omega), ← hk]; rfl
  have hw2 : IntKind.i64.wrap (k : Int) = (k : Int) := by rw [IntKind.wrap_i64]; omega
  have hk0 : (0 : Int) ≤ (k : Int) := by omega
  have hki : (k : Int) < 5 := by omega
  rw [hk]
  clear hk h
  unfold snV
  generalize R k = s at *
  go_enter Try.func38, Try.ntmps38
  go_wp2_with fail
  go_region_with (fail)
  all_goals
    go_wp2_with fail
    have hbx := (Box.new W 62 #[.int .i64 s.1, .int .i64 s.2.1, .int .i64 s.2.2])
    refine bodyPost_ret (v := .agg #[.int .i64 s.1, .int .i64 s.2.1, .int .i64 s.2.2]) ?_ rfl ⟨rfl, ((Below.refl _ _).alloc (Nat.le_refl _) _).drew⟩
    exact at_result W.heap.size hbx.drew _ rfl
end Go.Proofs.Ytdhakekndinbeaa
