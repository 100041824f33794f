/- match: a copy of a record without headers, by a contract. No condition. -/
import Derived.Test.YtmnmgbbdjpfonaaDoorMtMat
import Derived.Test.YtmnmgbbdjpfonaaDoorMtClone
import Derived.LoopTactic
namespace Go.Proofs.YtmnmgbbdjpfonaaDoor
open Go.RowKit
set_option linter.unusedVariables false
def liveR (v : ByteArray) : Rec := ⟨0, 0, false, ⟨#[]⟩, false, v, []⟩
def liveC (v : ByteArray) : Array Value := #[.int .i64 0, .int .i64 0, .bool false, .string ⟨#[]⟩, .bool false, .string v, .slice none 0 0]
theorem liveV (v : ByteArray) : recV (liveR v) none 0 = .agg (liveC v) := rfl
theorem live_in (v : ByteArray) (hv : v.size ≤ 1000) (W : World) : RIn W (liveR v) none 0 :=
  ⟨HIn.nil _ _, by simp [liveR], (by decide : (⟨#[]⟩ : ByteArray).size ≤ 1152921504606846976), (by omega : v.size ≤ 1152921504606846976), by simp [liveR]⟩
theorem set_same {w : World} {b t : Nat} {cs : Array Value} (h : Box w b t cs) (i : Nat) (u : Value) (hi : cs[i]? = some u) : w.setCell ⟨b, i, none⟩ u = w := by
  have h1 := h.set i u
  have hcs : cs.setIfInBounds i u = cs := by
    apply Array.ext (by simp)
    intro j h1 h2
    rw [Array.getElem_setIfInBounds]
    split
    · subst_vars
      rw [Array.getElem?_eq_getElem h2] at hi
      injection hi with hi
      exact hi.symm
    · rfl
  rw [hcs] at h1
  have hh : (w.setCell ⟨b, i, none⟩ u).heap = w.heap := by
    apply Array.ext_getElem?
    intro k
    by_cases hk : k = b
    · subst hk; rw [h1, h]
    · exact Below.heap_setCell w _ u k hk
  cases w
  simp only [World.setCell] at hh ⊢
  rw [hh]
def set7 (w : World) (b : Nat) (v0 v1 v2 v3 v4 v5 v6 : Value) : World := ((((((w.setCell ⟨b, 0, none⟩ v0).setCell ⟨b, 1, none⟩ v1).setCell ⟨b, 2, none⟩ v2).setCell ⟨b, 3, none⟩ v3).setCell ⟨b, 4, none⟩ v4).setCell ⟨b, 5, none⟩ v5).setCell ⟨b, 6, none⟩ v6
theorem set7_box {w : World} {b t : Nat} {z0 z1 z2 z3 z4 z5 z6 : Value} (h : Box w b t #[z0, z1, z2, z3, z4, z5, z6]) (v0 v1 v2 v3 v4 v5 v6 : Value) : Box (set7 w b v0 v1 v2 v3 v4 v5 v6) b t #[v0, v1, v2, v3, v4, v5, v6] := by
  unfold set7
  have h0 : Box _ b t #[v0, z1, z2, z3, z4, z5, z6] := h.set 0 v0
  have h1 : Box _ b t #[v0, v1, z2, z3, z4, z5, z6] := h0.set 1 v1
  have h2 : Box _ b t #[v0, v1, v2, z3, z4, z5, z6] := h1.set 2 v2
  have h3 : Box _ b t #[v0, v1, v2, v3, z4, z5, z6] := h2.set 3 v3
  have h4 : Box _ b t #[v0, v1, v2, v3, v4, z5, z6] := h3.set 4 v4
  have h5 : Box _ b t #[v0, v1, v2, v3, v4, v5, z6] := h4.set 5 v5
  have h6 : Box _ b t #[v0, v1, v2, v3, v4, v5, v6] := h5.set 6 v6
  exact h6
theorem set7_off (w : World) (b : Nat) (v0 v1 v2 v3 v4 v5 v6 : Value) : Off (· = b) w (set7 w b v0 v1 v2 v3 v4 v5 v6) := by
  unfold set7
  have h0 := Off.refl (· = b) w
  have h1 := h0.set (p := ⟨b, 0, none⟩) (.inl rfl) v0
  have h2 := h1.set (p := ⟨b, 1, none⟩) (.inl rfl) v1
  have h3 := h2.set (p := ⟨b, 2, none⟩) (.inl rfl) v2
  have h4 := h3.set (p := ⟨b, 3, none⟩) (.inl rfl) v3
  have h5 := h4.set (p := ⟨b, 4, none⟩) (.inl rfl) v4
  have h6 := h5.set (p := ⟨b, 5, none⟩) (.inl rfl) v5
  have h7 := h6.set (p := ⟨b, 6, none⟩) (.inl rfl) v6
  exact h7
theorem cpr_result {w : World} (g : Nat) {v0 v1 v2 v3 v4 v5 v6 : Value} (h : Box w g 27 #[v0, v1, v2, v3, v4, v5, v6]) (tmps : Array Value) (ht : (tmps[2]?).getD undef = .pointer (some ⟨g, 0, none⟩)) :
    (results Tryd.f25 tmps).run Tryd.prog w = .ok (.agg #[v0, v1, v2, v3, v4, v5, v6]) w := by
  have c0 := (h.cell 0).trans (show _ = some v0 from rfl)
  have c1 := (h.cell 1).trans (show _ = some v1 from rfl)
  have c2 := (h.cell 2).trans (show _ = some v2 from rfl)
  have c3 := (h.cell 3).trans (show _ = some v3 from rfl)
  have c4 := (h.cell 4).trans (show _ = some v4 from rfl)
  have c5 := (h.cell 5).trans (show _ = some v5 from rfl)
  have c6 := (h.cell 6).trans (show _ = some v6 from rfl)
  simp [results, Tryd.results25, go_sem, ht, c0, c1, c2, c3, c4, c5, c6]
/-- The two boxes of a copy. -/
structure Cp2 (W : World) (v : ByteArray) (w : World) : Prop where
  b1 : Box w W.heap.size 27 (liveC v)
  b2 : Box w (W.heap.size + 1) 27 (liveC ⟨#[]⟩)
  bel : Below W.heap.size W w
theorem Cp2.start (W : World) (v : ByteArray) : Cp2 W v ((W.alloc (.cells (liveC v) 27)).alloc (.cells (liveC ⟨#[]⟩) 27)) :=
  ⟨(Box.new _ _ _).alloc _, by have h := Box.new (W.alloc (.cells (liveC v) 27)) 27 (liveC ⟨#[]⟩); simpa using h, ((Below.refl _ _).alloc (Nat.le_refl _) _).alloc (by simp) _⟩
theorem Cp2.later {W w w' : World} {v : ByteArray} (h : Cp2 W v w) (hb : Below w.heap.size w w') : Cp2 W v w' := ⟨h.b1.later hb, h.b2.later hb, h.bel.trans (hb.mono h.bel.size)⟩
theorem Cp2.facts {W w : World} {v : ByteArray} (h : Cp2 W v w) : (w.cell? ⟨W.heap.size, 0, none⟩ = some (.int .i64 0) ∧ w.cell? ⟨W.heap.size, 1, none⟩ = some (.int .i64 0) ∧ w.cell? ⟨W.heap.size, 2, none⟩ = some (.bool false) ∧ w.cell? ⟨W.heap.size, 3, none⟩ = some (.string ⟨#[]⟩) ∧ w.cell? ⟨W.heap.size, 4, none⟩ = some (.bool false) ∧ w.cell? ⟨W.heap.size, 5, none⟩ = some (.string v) ∧ w.cell? ⟨W.heap.size, 6, none⟩ = some (.slice none 0 0)) ∧
    (w.frozen? ⟨W.heap.size, 3, none⟩ = false ∧ w.frozen? ⟨W.heap.size, 5, none⟩ = false ∧ w.frozen? ⟨W.heap.size, 6, none⟩ = false) ∧
    (w.setCell ⟨W.heap.size, 3, none⟩ (.string ⟨#[]⟩) = w ∧ w.setCell ⟨W.heap.size, 5, none⟩ (.string v) = w ∧ w.setCell ⟨W.heap.size, 6, none⟩ (.slice none 0 0) = w) :=
  ⟨⟨h.b1.cell 0, h.b1.cell 1, h.b1.cell 2, h.b1.cell 3, h.b1.cell 4, h.b1.cell 5, h.b1.cell 6⟩, ⟨h.b1.frozen 3, h.b1.frozen 5, h.b1.frozen 6⟩, set_same h.b1 3 _ rfl, set_same h.b1 5 _ rfl, set_same h.b1 6 _ rfl⟩
set_option maxHeartbeats 4000000 in
set_option maxRecDepth 100000 in
theorem copy0_c (v : ByteArray) (hv : v.size ≤ 1000) (W : World) : Calls Tryd.prog 25 #[.agg (liveC v)] W (Good W (.agg (liveC v))) := by
  have HC := Lib.hid (Cp2.start W v)
  have k1 := fun w => clone_c (⟨#[]⟩ : ByteArray) w (by decide)
  have k2 := fun w => clone_c v w (by omega)
  obtain ⟨⟨x0, x1, x2, x3, x4, x5, x6⟩, ⟨f3, f5, f6⟩, s3, s5, s6⟩ := HC.out.facts
  have hc : ∀ w, Cp2 W v w → _ := fun w h => h.facts
  unfold liveC at *
  go_enter Tryd.func25, Tryd.ntmps25
  go_wp2_with fail
  with_reducible refine (k1 _).mono ?_
  rintro en w1 ⟨rfl, hb1⟩
  have H1 := Lib.hid (HC.out.later hb1)
  clear hb1 x0 x1 x2 x3 x4 x5 x6 f3 f5 f6 s3 s5 s6 HC
  obtain ⟨⟨x0, x1, x2, x3, x4, x5, x6⟩, ⟨f3, f5, f6⟩, s3, s5, s6⟩ := hc _ H1.out
  go_wp2_with fail
  with_reducible refine (k2 _).mono ?_
  rintro en w2 ⟨rfl, hb2⟩
  have H2 := Lib.hid (H1.out.later hb2)
  clear hb2 x0 x1 x2 x3 x4 x5 x6 f3 f5 f6 s3 s5 s6 H1
  obtain ⟨⟨x0, x1, x2, x3, x4, x5, x6⟩, ⟨f3, f5, f6⟩, s3, s5, s6⟩ := hc _ H2.out
  go_wp2_with fail
  go_loopw [3, 17] (fun a i wr => a = .slice none 0 0 ∧ i = .int .i64 0 ∧ wr = w2) (fun _ i _ => 0)
  case atStart => exact ⟨rfl, rfl, rfl⟩
  case round =>
    obtain ⟨rfl, rfl, rfl⟩ := hrel
    have r0 := (H2.out.b2.cell 0).trans (show _ = some (Value.int .i64 0) from rfl)
    have r1 := (H2.out.b2.cell 1).trans (show _ = some (Value.int .i64 0) from rfl)
    have r2 := (H2.out.b2.cell 2).trans (show _ = some (Value.bool false) from rfl)
    have r3 := (H2.out.b2.cell 3).trans (show _ = some (Value.string ⟨#[]⟩) from rfl)
    have r4 := (H2.out.b2.cell 4).trans (show _ = some (Value.bool false) from rfl)
    have r5 := (H2.out.b2.cell 5).trans (show _ = some (Value.string ⟨#[]⟩) from rfl)
    have r6 := (H2.out.b2.cell 6).trans (show _ = some (Value.slice none 0 0) from rfl)
    have g0 := H2.out.b2.frozen 0
    have g1 := H2.out.b2.frozen 1
    have g2 := H2.out.b2.frozen 2
    have g3 := H2.out.b2.frozen 3
    have g4 := H2.out.b2.frozen 4
    have g5 := H2.out.b2.frozen 5
    have g6 := H2.out.b2.frozen 6
    go_wp2_with fail
    refine bodyPost_ret (v := .agg #[.int .i64 0, .int .i64 0, .bool false, .string ⟨#[]⟩, .bool false, .string v, .slice none 0 0]) ?_ rfl ⟨rfl, ?_⟩
    · exact cpr_result (W.heap.size + 1) (set7_box H2.out.b2 _ _ _ _ _ _ _) _ rfl
    · exact H2.out.bel.trans ((set7_off _ (W.heap.size + 1) _ _ _ _ _ _ _).below H2.out.bel.size (fun k hk => by omega))
end Go.Proofs.YtmnmgbbdjpfonaaDoor
