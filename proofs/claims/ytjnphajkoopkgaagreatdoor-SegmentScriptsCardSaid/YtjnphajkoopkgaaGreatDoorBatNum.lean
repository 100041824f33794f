/- A batch's own numbers: whether they may be. No condition. -/
import Derived.Test.YtjnphajkoopkgaaGreatDoorMem
import Derived.Test.YtjnphajkoopkgaaGreatDoorNum
namespace Go.Proofs.YtjnphajkoopkgaaGreatDoor
open Go.RowKit
set_option linter.unusedVariables false
/-- What a call that changes nothing but may lay blocks hands back. -/
def wi (n m : Int) : Bool := decide (0 ≤ n) && decide (n ≤ m)
theorem bwithin_c (n m : Int) (W : World) : Calls Tryz.prog 133 #[.int .i64 n, .int .i64 m] W (fun e w' => e = .returned (.bool (wi n m)) ∧ w' = W) := by
  unfold wi
  by_cases h : 0 ≤ n
  · go_enter Tryz.func133, Tryz.ntmps133
    go_wp2
    go_ret
    refine ⟨?_, rfl⟩
    simp_all
  · have h' : decide (0 ≤ n) = false := decide_eq_false h
    go_enter Tryz.func133, Tryz.ntmps133
    go_wp2
    go_ret
    refine ⟨?_, rfl⟩
    simp
/-- A batch's numbers. -/
structure BN where
  base : Int
  span : Int
  prod : Int
  epoch : Int
  seq : Int
def bnC (b : BN) (v : Value) : Array Value := #[.int .i64 b.base, .int .i64 b.span, .int .i64 b.prod, .int .i64 b.epoch, .int .i64 b.seq, v]
def noneB (b : BN) : Bool := decide (b.prod = -1) && decide (b.epoch = -1) && decide (b.seq = -1)
def someB (b : BN) : Bool := wi b.prod 1073741824 && wi b.epoch 32768 && wi b.seq 1073741824
def numB (b : BN) : Bool := wi b.base 1099511627776 && decide (1 ≤ b.span) && decide (b.span ≤ 50) && (noneB b || someB b)
set_option maxHeartbeats 8000000 in
set_option maxRecDepth 100000 in
theorem numbered_c (b : BN) (v : Value) (W : World) : Calls Tryz.prog 104 #[.agg (bnC b v)] W (fun e w' => e = .returned (.bool (numB b)) ∧ Below W.heap.size W w') := by
  obtain ⟨base, span, prod, epoch, seq⟩ := b
  have hb0 : Below W.heap.size W (W.alloc (.cells #[.int .i64 base, .int .i64 span, .int .i64 prod, .int .i64 epoch, .int .i64 seq, v] 44)) := (Below.refl _ W).alloc (Nat.le_refl _) _
  have hbx := Box.new W 44 #[.int .i64 base, .int .i64 span, .int .i64 prod, .int .i64 epoch, .int .i64 seq, v]
  have y0 := (hbx.cell 0).trans rfl
  have y1 := (hbx.cell 1).trans rfl
  have y2 := (hbx.cell 2).trans rfl
  have y3 := (hbx.cell 3).trans rfl
  have y4 := (hbx.cell 4).trans rfl
  simp only [List.getElem?_toArray, List.getElem?_cons_zero, List.getElem?_cons_succ] at y0 y1 y2 y3 y4
  have c1 := fun w => bwithin_c base 1099511627776 w
  have c2 := fun w => bwithin_c prod 1073741824 w
  have c3 := fun w => bwithin_c epoch 32768 w
  have c4 := fun w => bwithin_c seq 1073741824 w
  have HB := Lib.hid hb0
  clear hbx hb0
  unfold numB noneB someB bnC
  simp only
  cases h1 : wi base 1099511627776 with
  | false =>
    rw [h1] at c1
    go_enter Tryz.func104, Tryz.ntmps104
    go_wp2_with ((with_reducible refine (c1 _).mono ?_); rintro en w1 ⟨rfl, hw⟩; (have hw' := hw.symm; subst hw'))
    go_ret
    exact ⟨rfl, HB.out⟩
  | true =>
    rw [h1] at c1
    by_cases h2 : span < 1
    · have e2 : decide (1 ≤ span) = false := decide_eq_false (by omega)
      go_enter Tryz.func104, Tryz.ntmps104
      go_wp2_with ((with_reducible refine (c1 _).mono ?_); rintro en w1 ⟨rfl, hw⟩; (have hw' := hw.symm; subst hw'))
      go_ret
      refine ⟨?_, HB.out⟩
      rw [e2]
      rfl
    · have e2 : decide (1 ≤ span) = true := decide_eq_true (by omega)
      by_cases h3 : 50 < span
      · have e3 : decide (span ≤ 50) = false := decide_eq_false (by omega)
        go_enter Tryz.func104, Tryz.ntmps104
        go_wp2_with ((with_reducible refine (c1 _).mono ?_); rintro en w1 ⟨rfl, hw⟩; (have hw' := hw.symm; subst hw'))
        go_ret
        refine ⟨?_, HB.out⟩
        rw [e2, e3]
        rfl
      · have e3 : decide (span ≤ 50) = true := decide_eq_true (by omega)
        by_cases hn : prod = -1 ∧ epoch = -1 ∧ seq = -1
        · obtain ⟨n1, n2, n3⟩ := hn
          subst n1
          subst n2
          subst n3
          go_enter Tryz.func104, Tryz.ntmps104
          go_wp2_with ((with_reducible refine (c1 _).mono ?_); rintro en w1 ⟨rfl, hw⟩; (have hw' := hw.symm; subst hw'))
          go_ret
          refine ⟨?_, HB.out⟩
          rw [e2, e3]
          rfl
        · have hres : (true && decide (1 ≤ span) && decide (span ≤ 50) && (decide (prod = -1) && decide (epoch = -1) && decide (seq = -1) || wi prod 1073741824 && wi epoch 32768 && wi seq 1073741824)) = (wi prod 1073741824 && wi epoch 32768 && wi seq 1073741824) := by
            have : (decide (prod = -1) && decide (epoch = -1) && decide (seq = -1)) = false := by
              rw [Bool.eq_false_iff]
              intro e
              simp at e
              exact hn ⟨e.1.1, e.1.2, e.2⟩
            rw [e2, e3, this]
            rfl
          rw [hres]
          clear hres
          by_cases hp : prod = -1
          · subst hp
            have e4 : wi (-1) 1073741824 = false := rfl
            rw [e4] at c2
            rw [e4]
            by_cases he : epoch = -1
            · subst he
              have hs : seq ≠ -1 := fun e => hn ⟨rfl, rfl, e⟩
              have hs' : (seq == -1) = false := by rw [beq_eq_false_iff_ne]; exact hs
              go_enter Tryz.func104, Tryz.ntmps104
              go_wp2_with (first
                | ((with_reducible refine (c1 _).mono ?_); rintro en w1 ⟨rfl, hw⟩; (have hw' := hw.symm; subst hw'))
                | ((with_reducible refine (c2 _).mono ?_); rintro en w1 ⟨rfl, hw⟩; (have hw' := hw.symm; subst hw'))
                | ((with_reducible refine (c3 _).mono ?_); rintro en w1 ⟨rfl, hw⟩; (have hw' := hw.symm; subst hw'))
                | ((with_reducible refine (c4 _).mono ?_); rintro en w1 ⟨rfl, hw⟩; (have hw' := hw.symm; subst hw')))
              go_ret
              exact ⟨rfl, HB.out⟩
            · have he' : (epoch == -1) = false := by rw [beq_eq_false_iff_ne]; exact he
              go_enter Tryz.func104, Tryz.ntmps104
              go_wp2_with (first
                | ((with_reducible refine (c1 _).mono ?_); rintro en w1 ⟨rfl, hw⟩; (have hw' := hw.symm; subst hw'))
                | ((with_reducible refine (c2 _).mono ?_); rintro en w1 ⟨rfl, hw⟩; (have hw' := hw.symm; subst hw'))
                | ((with_reducible refine (c3 _).mono ?_); rintro en w1 ⟨rfl, hw⟩; (have hw' := hw.symm; subst hw'))
                | ((with_reducible refine (c4 _).mono ?_); rintro en w1 ⟨rfl, hw⟩; (have hw' := hw.symm; subst hw')))
              go_ret
              exact ⟨rfl, HB.out⟩
          · have hp' : (prod == -1) = false := by rw [beq_eq_false_iff_ne]; exact hp
            cases h5 : wi prod 1073741824 with
            | false =>
              rw [h5] at c2
              go_enter Tryz.func104, Tryz.ntmps104
              go_wp2_with (first
                | ((with_reducible refine (c1 _).mono ?_); rintro en w1 ⟨rfl, hw⟩; (have hw' := hw.symm; subst hw'))
                | ((with_reducible refine (c2 _).mono ?_); rintro en w1 ⟨rfl, hw⟩; (have hw' := hw.symm; subst hw'))
                | ((with_reducible refine (c3 _).mono ?_); rintro en w1 ⟨rfl, hw⟩; (have hw' := hw.symm; subst hw'))
                | ((with_reducible refine (c4 _).mono ?_); rintro en w1 ⟨rfl, hw⟩; (have hw' := hw.symm; subst hw')))
              go_ret
              exact ⟨rfl, HB.out⟩
            | true =>
              rw [h5] at c2
              cases h6 : wi epoch 32768 with
              | false =>
                rw [h6] at c3
                go_enter Tryz.func104, Tryz.ntmps104
                go_wp2_with (first
                  | ((with_reducible refine (c1 _).mono ?_); rintro en w1 ⟨rfl, hw⟩; (have hw' := hw.symm; subst hw'))
                  | ((with_reducible refine (c2 _).mono ?_); rintro en w1 ⟨rfl, hw⟩; (have hw' := hw.symm; subst hw'))
                  | ((with_reducible refine (c3 _).mono ?_); rintro en w1 ⟨rfl, hw⟩; (have hw' := hw.symm; subst hw'))
                  | ((with_reducible refine (c4 _).mono ?_); rintro en w1 ⟨rfl, hw⟩; (have hw' := hw.symm; subst hw')))
                go_ret
                exact ⟨rfl, HB.out⟩
              | true =>
                rw [h6] at c3
                cases h7 : wi seq 1073741824 with
                | false =>
                  rw [h7] at c4
                  go_enter Tryz.func104, Tryz.ntmps104
                  go_wp2_with (first
                    | ((with_reducible refine (c1 _).mono ?_); rintro en w1 ⟨rfl, hw⟩; (have hw' := hw.symm; subst hw'))
                    | ((with_reducible refine (c2 _).mono ?_); rintro en w1 ⟨rfl, hw⟩; (have hw' := hw.symm; subst hw'))
                    | ((with_reducible refine (c3 _).mono ?_); rintro en w1 ⟨rfl, hw⟩; (have hw' := hw.symm; subst hw'))
                    | ((with_reducible refine (c4 _).mono ?_); rintro en w1 ⟨rfl, hw⟩; (have hw' := hw.symm; subst hw')))
                  go_ret
                  exact ⟨rfl, HB.out⟩
                | true =>
                  rw [h7] at c4
                  go_enter Tryz.func104, Tryz.ntmps104
                  go_wp2_with (first
                    | ((with_reducible refine (c1 _).mono ?_); rintro en w1 ⟨rfl, hw⟩; (have hw' := hw.symm; subst hw'))
                    | ((with_reducible refine (c2 _).mono ?_); rintro en w1 ⟨rfl, hw⟩; (have hw' := hw.symm; subst hw'))
                    | ((with_reducible refine (c3 _).mono ?_); rintro en w1 ⟨rfl, hw⟩; (have hw' := hw.symm; subst hw'))
                    | ((with_reducible refine (c4 _).mono ?_); rintro en w1 ⟨rfl, hw⟩; (have hw' := hw.symm; subst hw')))
                  go_ret
                  exact ⟨rfl, HB.out⟩
end Go.Proofs.YtjnphajkoopkgaaGreatDoor
