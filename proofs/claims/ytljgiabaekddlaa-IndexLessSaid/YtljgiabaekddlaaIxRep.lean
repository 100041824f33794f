/- index: an index in memory; an entry as told; New; whether a place rises, whether an entry is due. No condition. -/
import Derived.Test.YtljgiabaekddlaaIxBase
import Derived.BigQuiet
import Derived.Deep.QuietTactic
namespace Go.Proofs.Ytljgiabaekddlaa
open Go.RowKit
set_option linter.unusedVariables false
/-- An entry: an offset, a place, a time. -/
abbrev En := Int × Int × Int
def okE (e : En) : Prop := ixo e.1 = true ∧ ixo e.2.1 = true
def entC (L : List En) : List Value := L.flatMap fun e => [.complex .f64 (fl e.1) (fl e.2.1), .int .i64 e.2.2]
def tldC (L : List En) : List Value := L.flatMap fun e => [.int .i64 e.1, .int .i64 e.2.1, .int .i64 e.2.2]
theorem entC_snoc (L : List En) (e : En) : entC (L ++ [e]) = entC L ++ [.complex .f64 (fl e.1) (fl e.2.1), .int .i64 e.2.2] := by simp [entC]
theorem tldC_snoc (L : List En) (e : En) : tldC (L ++ [e]) = tldC L ++ [.int .i64 e.1, .int .i64 e.2.1, .int .i64 e.2.2] := by simp [tldC]
theorem entC_at : ∀ {L : List En} {j : Nat} {e : En}, L[j]? = some e → (entC L)[j * 2]? = some (.complex .f64 (fl e.1) (fl e.2.1)) ∧ (entC L)[j * 2 + 1]? = some (.int .i64 e.2.2)
  | [], j, e, h => by cases h
  | x :: l, 0, e, h => by
    have : x = e := by simpa using h
    subst this
    exact ⟨rfl, rfl⟩
  | x :: l, j + 1, e, h => by
    have ih := entC_at (L := l) (j := j) (e := e) (by simpa using h)
    show ([_, _] ++ entC l)[(j + 1) * 2]? = _ ∧ ([_, _] ++ entC l)[(j + 1) * 2 + 1]? = _
    rw [List.getElem?_append_right (by simp; omega), List.getElem?_append_right (by simp; omega)]
    rw [show (j + 1) * 2 - [Value.complex .f64 (fl x.1) (fl x.2.1), Value.int .i64 x.2.2].length = j * 2 by simp; omega, show (j + 1) * 2 + 1 - [Value.complex .f64 (fl x.1) (fl x.2.1), Value.int .i64 x.2.2].length = j * 2 + 1 by simp; omega]
    exact ih
theorem tldC_at : ∀ {L : List En} {j : Nat} {e : En}, L[j]? = some e → (tldC L)[j * 3]? = some (.int .i64 e.1) ∧ (tldC L)[j * 3 + 1]? = some (.int .i64 e.2.1) ∧ (tldC L)[j * 3 + 2]? = some (.int .i64 e.2.2)
  | [], j, e, h => by cases h
  | x :: l, 0, e, h => by
    have : x = e := by simpa using h
    subst this
    exact ⟨rfl, rfl, rfl⟩
  | x :: l, j + 1, e, h => by
    have ih := tldC_at (L := l) (j := j) (e := e) (by simpa using h)
    have hl : [Value.int .i64 x.1, Value.int .i64 x.2.1, Value.int .i64 x.2.2].length = 3 := rfl
    show ([_, _, _] ++ tldC l)[(j + 1) * 3]? = _ ∧ ([_, _, _] ++ tldC l)[(j + 1) * 3 + 1]? = _ ∧ ([_, _, _] ++ tldC l)[(j + 1) * 3 + 2]? = _
    rw [List.getElem?_append_right (by rw [hl]; omega), List.getElem?_append_right (by rw [hl]; omega), List.getElem?_append_right (by rw [hl]; omega), hl]
    rw [show (j + 1) * 3 - 3 = j * 3 by omega, show (j + 1) * 3 + 1 - 3 = j * 3 + 1 by omega, show (j + 1) * 3 + 2 - 3 = j * 3 + 2 by omega]
    exact ih
/-- An index, as the document has it. -/
structure Ix where
  every : Int
  L : List En
  lo : Int
  lp : Int
  lt : Int
/-- The program's index in memory. -/
structure IxIs (w : World) (base b : Nat) (x : Ix) (A : Option Addr) (c : Nat) : Prop where
  box : Box w b 49 #[.int .i64 x.every, .slice A x.L.length c, .complex .f64 (fl x.lo) (fl x.lp), .int .i64 x.lt]
  row : w.ownsRow base 54 2 (.slice A x.L.length c) x.L.length (entC x.L)
  lo : base ≤ b
  oks : ∀ e ∈ x.L, okE e
  okl : ixo x.lo = true ∧ ixo x.lp = true
theorem IxIs.later {w w' : World} {base b c : Nat} {x : Ix} {A : Option Addr} (h : IxIs w base b x A c) (hb : Below w.heap.size w w') : IxIs w' base b x A c := ⟨h.box.later hb, own_below h.row hb, h.lo, h.oks, h.okl⟩
theorem IxIs.cells {w : World} {base b c : Nat} {x : Ix} {A : Option Addr} (h : IxIs w base b x A c) : w.cell? ⟨b, 0, none⟩ = some (.int .i64 x.every) ∧ w.cell? ⟨b, 1, none⟩ = some (.slice A x.L.length c) ∧ w.cell? ⟨b, 2, none⟩ = some (.complex .f64 (fl x.lo) (fl x.lp)) ∧ w.cell? ⟨b, 3, none⟩ = some (.int .i64 x.lt) ∧
    w.frozen? ⟨b, 0, none⟩ = false ∧ w.frozen? ⟨b, 1, none⟩ = false ∧ w.frozen? ⟨b, 2, none⟩ = false ∧ w.frozen? ⟨b, 3, none⟩ = false :=
  ⟨by rw [h.box.cell]; rfl, by rw [h.box.cell]; rfl, by rw [h.box.cell]; rfl, by rw [h.box.cell]; rfl, h.box.frozen 0, h.box.frozen 1, h.box.frozen 2, h.box.frozen 3⟩
theorem IxIs.entry {w : World} {base b c : Nat} {x : Ix} {A : Option Addr} (h : IxIs w base b x A c) {j : Nat} {e : En} (hj : x.L[j]? = some e) :
    ∃ g, A = some ⟨g, 0, none⟩ ∧ w.cell? ⟨g, j * 2, none⟩ = some (.complex .f64 (fl e.1) (fl e.2.1)) ∧ w.cell? ⟨g, j * 2 + 1, none⟩ = some (.int .i64 e.2.2) ∧ g < w.heap.size ∧ x.L.length ≤ c := by
  have hl : j < x.L.length := (List.getElem?_eq_some_iff.1 hj).1
  have hrow := h.row
  rcases hrow.2 with ⟨hv, h0⟩ | ⟨g, cap, cur, hv, hg, hh, h4, h5, h6, h7⟩
  · omega
  · injection hv with e1 e2 e3
    subst e1 e3
    obtain ⟨k1, k2⟩ := entC_at hj
    exact ⟨g, rfl, (hrow.cellAt (j * 2) (by omega)).trans k1, (hrow.cellAt (j * 2 + 1) (by omega)).trans k2, lt_of_there hh, h4⟩
theorem told_result {w : World} (g : Nat) {v0 v1 v2 : Value} (h : Box w g 39 #[v0, v1, v2]) (tmps : Array Value) (ht : (tmps[2]?).getD undef = .pointer (some ⟨g, 0, none⟩)) :
    (results Try.f25 tmps).run Try.prog w = .ok (.agg #[v0, v1, v2]) w := by
  have c0 := (h.cell 0).trans (show _ = some v0 from rfl)
  have c1 := (h.cell 1).trans (show _ = some v1 from rfl)
  have c2 := (h.cell 2).trans (show _ = some v2 from rfl)
  simp [results, Try.results25, go_sem, ht, c0, c1, c2]
set_option maxHeartbeats 4000000 in
set_option maxRecDepth 100000 in
theorem told_c (o p t : Int) (W : World) (ho : ixo o = true) (hp : ixo p = true) :
    Calls Try.prog 25 #[.agg #[.complex .f64 (fl o) (fl p), .int .i64 t]] W (Good W (.agg #[.int .i64 o, .int .i64 p, .int .i64 t])) := by
  have cs := fun w => split_c o p w ho hp
  clear ho hp
  generalize fl o = zo at *
  generalize fl p = zp at *
  obtain ⟨W0, hW0⟩ : ∃ w, (W.alloc (.cells #[.complex .f64 zo zp, .int .i64 t] 54)).alloc (.cells #[.int .i64 0, .int .i64 0, .int .i64 0] 39) = w := ⟨_, rfl⟩
  have HA : Hid (Below W.heap.size W W0 ∧ Box W0 W.heap.size 54 #[.complex .f64 zo zp, .int .i64 t] ∧ Box W0 (W.heap.size + 1) 39 #[.int .i64 0, .int .i64 0, .int .i64 0]) := Lib.hid (by
    rw [← hW0]
    refine ⟨((Below.refl _ W).alloc (Nat.le_refl _) _).alloc (by simp) _, (Box.new W _ _).alloc _, ?_⟩
    have := Box.new (W.alloc (.cells #[.complex .f64 zo zp, .int .i64 t] 54)) 39 #[.int .i64 0, .int .i64 0, .int .i64 0]
    rwa [World.size_alloc] at this)
  have y0 := (HA.out.2.1.cell 0).trans (show _ = some (Value.complex .f64 zo zp) from rfl)
  have y1 := (HA.out.2.1.cell 1).trans (show _ = some (Value.int .i64 t) from rfl)
  have z0 := (HA.out.2.2.cell 0).trans (show _ = some (Value.int .i64 0) from rfl)
  have z1 := (HA.out.2.2.cell 1).trans (show _ = some (Value.int .i64 0) from rfl)
  have z2 := (HA.out.2.2.cell 2).trans (show _ = some (Value.int .i64 0) from rfl)
  have f0 := HA.out.2.2.frozen 0
  have f1 := HA.out.2.2.frozen 1
  have f2 := HA.out.2.2.frozen 2
  have HB : Hid (Box (((W0.setCell ⟨W.heap.size + 1, 0, none⟩ (.int .i64 o)).setCell ⟨W.heap.size + 1, 1, none⟩ (.int .i64 p)).setCell ⟨W.heap.size + 1, 2, none⟩ (.int .i64 t)) (W.heap.size + 1) 39 #[.int .i64 o, .int .i64 p, .int .i64 t]) := Lib.hid (((HA.out.2.2.set 0 _).set 1 _).set 2 _)
  go_enter Try.func25, Try.ntmps25
  go_wp2_with fail
  (with_reducible refine (cs _).mono ?_)
  rintro e w1 ⟨rfl, rfl⟩
  go_wp2_with fail
  refine bodyPost_ret (v := .agg #[.int .i64 o, .int .i64 p, .int .i64 t]) ?_ rfl ?_
  · exact told_result (W.heap.size + 1) HB.out _ rfl
  · exact ⟨rfl, ((HA.out.1.setCell (p := ⟨W.heap.size + 1, 0, none⟩) (Nat.le_succ _) _).setCell (p := ⟨W.heap.size + 1, 1, none⟩) (Nat.le_succ _) _).setCell (p := ⟨W.heap.size + 1, 2, none⟩) (Nat.le_succ _) _⟩
/-- What New hands back. -/
def GotNew (W : World) (every : Int) (en : Ending) (w' : World) : Prop :=
  (¬ (1 ≤ every ∧ every ≤ 1000000) → en = .returned (.tuple #[.pointer none, .int .i64 1]) ∧ w' = W) ∧
  (1 ≤ every ∧ every ≤ 1000000 → en = .returned (.tuple #[.pointer (some ⟨W.heap.size, 0, none⟩), .int .i64 0]) ∧ IxIs w' W.heap.size W.heap.size ⟨every, [], 0, 0, 0⟩ none 0 ∧ Below W.heap.size W w')
theorem fl_zero : fl 0 = 0 := by decide
set_option maxHeartbeats 4000000 in
set_option maxRecDepth 100000 in
theorem new_c (every : Int) (W : World) : Calls Try.prog 8 #[.int .i64 every] W (GotNew W every) := by
  by_cases h1 : every < 1
  · go_enter Try.func8, Try.ntmps8
    go_wp2
    go_ret2
    exact ⟨fun _ => ⟨rfl, rfl⟩, fun h => by omega⟩
  · by_cases h2 : 1000000 < every
    · go_enter Try.func8, Try.ntmps8
      go_wp2
      go_ret2
      exact ⟨fun _ => ⟨rfl, rfl⟩, fun h => by omega⟩
    · have HX : Hid (IxIs (W.alloc (.cells #[.int .i64 every, .slice none 0 0, .complex .f64 0 0, .int .i64 0] 49)) W.heap.size W.heap.size ⟨every, [], 0, 0, 0⟩ none 0) := Lib.hid ⟨by show Box _ _ _ #[.int .i64 every, .slice none 0 0, .complex .f64 (fl 0) (fl 0), .int .i64 0]; rw [fl_zero]; exact Box.new W _ _, World.ownsRow_nil _ _ _ _, Nat.le_refl _, (fun e he => by cases he), rfl, rfl⟩
      go_enter Try.func8, Try.ntmps8
      go_wp2
      go_ret2
      exact ⟨fun h => absurd (by omega) h, fun _ => ⟨rfl, HX.out, (Below.refl _ W).alloc (Nat.le_refl _) _⟩⟩
end Go.Proofs.Ytljgiabaekddlaa
