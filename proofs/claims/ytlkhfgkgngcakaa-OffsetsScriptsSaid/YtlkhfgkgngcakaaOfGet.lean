/- offsets: New, within, mayBe, Get, by contracts. No condition. -/
import Derived.Test.YtlkhfgkgngcakaaOfPut
namespace Go.Proofs.Ytlkhfgkgngcakaa
open Go.RowKit Go.Maps Go.ChangeMaps Go.WideMaps
set_option linter.unusedVariables false
theorem below_drewN {B : Nat} {a w : World} (h : Below B a w) (n : Nat) : Below B a (w.drewN n) := ⟨h.os, h.tape, h.output, h.size, h.block⟩
/-- Is a number within bounds? -/
def witB (n l m : Int) : Bool := decide (l ≤ n) && decide (n ≤ m)
theorem within_c (n l m : Int) (W : World) : Calls Try.prog 19 #[.int .i64 n, .int .i64 l, .int .i64 m] W (fun e w' => e = .returned (.bool (witB n l m)) ∧ w' = W) := by
  unfold witB
  by_cases h : l ≤ n
  · rw [decide_eq_true h]
    go_enter Try.func19, Try.ntmps19
    go_wp2
    go_ret
    exact ⟨by simp, rfl⟩
  · rw [decide_eq_false h]
    go_enter Try.func19, Try.ntmps19
    go_wp2
    go_ret
    exact ⟨rfl, rfl⟩
/-- May a key be? -/
def mayK (k : KY) : Bool := witB k.g.size 1 100 && (witB k.t.size 1 100 && witB k.i 0 15)
theorem mayK_ok {k : KY} (h : mayK k = true) : KyOk k := by
  unfold mayK witB at h
  simp only [Bool.and_eq_true, decide_eq_true_eq] at h
  refine ⟨by unfold maxLen; omega, by unfold maxLen; omega, ?_⟩
  have h3 := h.2.2
  have e1 : IntKind.min .i64 = -9223372036854775808 := by decide
  have e2 : IntKind.max .i64 = 9223372036854775807 := by decide
  show (decide (IntKind.min .i64 ≤ k.i) && decide (k.i ≤ IntKind.max .i64)) = true
  rw [e1, e2, decide_eq_true (by omega), decide_eq_true (by omega)]
  rfl
set_option maxHeartbeats 4000000 in
set_option maxRecDepth 100000 in
theorem kmay_c (k : KY) (W : World) : Calls Try.prog 27 #[.agg #[.string k.g, .string k.t, .int .i64 k.i]] W (fun e w' => e = .returned (.bool (mayK k)) ∧ w' = W.alloc (.cells #[.string k.g, .string k.t, .int .i64 k.i] 45)) := by
  have cw := fun n l m w => within_c n l m w
  unfold mayK
  obtain ⟨a, ha⟩ : ∃ a, witB k.g.size 1 100 = a := ⟨_, rfl⟩
  obtain ⟨b, hb⟩ : ∃ b, witB k.t.size 1 100 = b := ⟨_, rfl⟩
  obtain ⟨c, hc⟩ : ∃ c, witB k.i 0 15 = c := ⟨_, rfl⟩
  have c1 := fun w => within_c k.g.size 1 100 w
  have c2 := fun w => within_c k.t.size 1 100 w
  have c3 := fun w => within_c k.i 0 15 w
  rw [ha] at c1 ⊢
  rw [hb] at c2 ⊢
  rw [hc] at c3 ⊢
  clear ha hb hc cw
  cases a with
  | false =>
    go_enter Try.func27, Try.ntmps27
    go_wp2_with fail
    with_reducible refine (c1 _).mono ?_
    rintro en w1 ⟨rfl, rfl⟩
    go_wp2_with fail
    go_ret
    exact ⟨rfl, rfl⟩
  | true =>
    cases b with
    | false =>
      go_enter Try.func27, Try.ntmps27
      go_wp2_with fail
      with_reducible refine (c1 _).mono ?_
      rintro en w1 ⟨rfl, rfl⟩
      go_wp2_with fail
      with_reducible refine (c2 _).mono ?_
      rintro en w2 ⟨rfl, rfl⟩
      go_wp2_with fail
      go_ret
      exact ⟨rfl, rfl⟩
    | true =>
      go_enter Try.func27, Try.ntmps27
      go_wp2_with fail
      with_reducible refine (c1 _).mono ?_
      rintro en w1 ⟨rfl, rfl⟩
      go_wp2_with fail
      with_reducible refine (c2 _).mono ?_
      rintro en w2 ⟨rfl, rfl⟩
      go_wp2_with fail
      with_reducible refine (c3 _).mono ?_
      rintro en w3 ⟨rfl, rfl⟩
      go_wp2_with fail
      go_ret
      exact ⟨by cases c <;> rfl, rfl⟩
/-- Get: how far, is it there? -/
def geR (F : List KE) (k : KY) : Int × Bool := match ofK F (kyB k) with | some e => (e.2, true) | none => (0, false)
theorem oget_nil (k : KY) (W : World) : Calls Try.prog 12 #[.pointer none, .agg #[.string k.g, .string k.t, .int .i64 k.i]] W (fun e w' => e = .returned (.tuple #[.int .i64 0, .bool false]) ∧ Below W.heap.size W w') := by
  go_enter Try.func12, Try.ntmps12
  go_wp2_with fail
  go_ret2
  exact ⟨rfl, (Below.refl _ _).alloc (Nat.le_refl _) _⟩
set_option maxHeartbeats 4000000 in
set_option maxRecDepth 100000 in
theorem oget_c (p g : Nat) (room : Int) (F : List KE) (k : KY) (W : World) (h : OfIs W p g room F) (hk : KyOk k) :
    Calls Try.prog 12 #[.pointer (some ⟨p, 0, none⟩), .agg #[.string k.g, .string k.t, .int .i64 k.i]] W (fun e w' => e = .returned (.tuple #[.int .i64 (geR F k).1, .bool (geR F k).2]) ∧ Below W.heap.size W w') := by
  have hb : Below W.heap.size W (W.alloc (.cells #[.string k.g, .string k.t, .int .i64 k.i] 45)) := (Below.refl _ _).alloc (Nat.le_refl _) _
  have h1 := h.later hb
  obtain ⟨c0, c1, cl⟩ := h1.cells
  have hl := fun n : Nat => look_any (h1.later (below_drewN (Below.refl _ (W.alloc (.cells #[.string k.g, .string k.t, .int .i64 k.i] 45))) n)) k hk true
  have HB := Lib.hid hb
  have hbx := Box.new W 45 #[.string k.g, .string k.t, .int .i64 k.i]
  have b0 := (hbx.cell 0).trans (show _ = some (Value.string k.g) from rfl)
  have b1 := (hbx.cell 1).trans (show _ = some (Value.string k.t) from rfl)
  have b2 := (hbx.cell 2).trans (show _ = some (Value.int .i64 k.i) from rfl)
  unfold kyV at hl
  unfold geR
  have hrun : ∃ v ok, (∀ n : Nat, (Instr.lookup 57 (.map (some g)) (.agg #[.string k.g, .string k.t, .int .i64 k.i]) true).run Try.prog ((W.alloc (.cells #[.string k.g, .string k.t, .int .i64 k.i] 45)).drewN n) = .ok (.tuple #[.int .i64 v, .bool ok]) ((W.alloc (.cells #[.string k.g, .string k.t, .int .i64 k.i] 45)).drewN n)) ∧ (match ofK F (kyB k) with | some e => (e.2, true) | none => ((0 : Int), false)) = (v, ok) := by
    cases hf : ofK F (kyB k) with
    | none => rw [hf] at hl; exact ⟨0, false, hl, rfl⟩
    | some e => rw [hf] at hl; exact ⟨e.2, true, hl, rfl⟩
  obtain ⟨v, ok, hr, hv⟩ := hrun
  rw [hv]
  clear hv hl h h1 hb hbx
  go_enter Try.func12, Try.ntmps12
  go_wp2_with fail
  go_quiet (fail)
  go_wp2_with fail
  go_ret2
  exact ⟨rfl, below_drewN HB.out _⟩
end Go.Proofs.Ytlkhfgkgngcakaa
