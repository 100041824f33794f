/- clean: records and batches in memory. No condition but that they are not too many. -/
import Derived.Test.YtdclkhbolmbnmaaDoorBatRec
import Derived.Laws.AppendOwn
import Derived.Maps.AppendAt
import Derived.Deep.RegionHeld3
import Derived.RegionTactic
import Derived.BigQuiet
import Derived.Deep.QuietTactic
import Derived.Deep.DeepCutAuto
namespace Go.Proofs.YtdclkhbolmbnmaaDoor
open Go.RowKit
set_option linter.unusedVariables false
/-- The cells of a list of headers. -/
def headCells (hs : List Hd) : List Value := hs.flatMap fun h => [.string h.1, .string h.2]
theorem headCells_len (hs : List Hd) : (headCells hs).length = hs.length * 2 := by
  induction hs with
  | nil => rfl
  | cons h hs ih => simp [headCells] at ih ⊢; omega
theorem headCells_snoc (hs : List Hd) (h : Hd) : headCells (hs ++ [h]) = headCells hs ++ [.string h.1, .string h.2] := by simp [headCells]
theorem headCells_at {hs : List Hd} {j : Nat} {h : Hd} (hj : hs[j]? = some h) : (headCells hs)[j * 2]? = some (.string h.1) ∧ (headCells hs)[j * 2 + 1]? = some (.string h.2) := by
  induction hs generalizing j with
  | nil => simp at hj
  | cons x hs ih =>
    cases j with
    | zero =>
      have : x = h := by simpa using hj
      subst this
      exact ⟨rfl, rfl⟩
    | succ j =>
      have := ih (j := j) (by simpa using hj)
      have e : headCells (x :: hs) = [.string x.1, .string x.2] ++ headCells hs := rfl
      rw [e, show (j + 1) * 2 = (j * 2) + 2 by omega, show j * 2 + 2 + 1 = (j * 2 + 1) + 2 by omega]
      exact this
theorem hin_of_own {w : World} {base n c : Nat} {A : Option Addr} {hs : List Hd} (h : w.ownsRow base 62 2 (.slice A n c) hs.length (headCells hs)) : HIn w A hs := fun hp => by
  rcases h.2 with ⟨_, h0⟩ | ⟨g, cap, cur, hv, hb, hg, hrest⟩
  · omega
  · injection hv with h1 h2 h3
    subst h1
    refine ⟨g, 0, rfl, lt_of_there hg, fun j x hx => ?_⟩
    obtain ⟨a1, a2⟩ := headCells_at hx
    have c1 := World.ownsRow.cells h (g := g) rfl _ _ a1
    have c2 := World.ownsRow.cells h (g := g) rfl _ _ a2
    have e1 : ∀ i, (⟨g, 0, none⟩ : Addr).add i = ⟨g, i, none⟩ := fun i => by unfold Addr.add; split <;> simp_all
    rw [e1] at c1 c2
    simp only [Nat.zero_add]
    exact ⟨c1, c2⟩
theorem Off.to_grown {w w' : World} {b : Nat} (h : Off (· = b) w w') : w.grownBy w' (some b) := ⟨h.os, h.tape, h.output, h.size, fun k hk hne => h.block k hk (fun e => hne (by rw [e]))⟩
theorem infoHeader : (Tryd.prog.info? 62).map (fun i => (i.zero, i.size, i.bytes)) = some (some (.agg #[.string ⟨#[]⟩, .string ⟨#[]⟩]), 2, 32) := by kernel_rfl
theorem own_not {W wr : World} {b t size n : Nat} {v : Value} {xs : List Value} (h : wr.ownsRow W.heap.size t size v n xs) (hb : b < W.heap.size) : v.ownBlock = none ∨ v.ownBlock ≠ some b :=
  .inr fun e => by have := (h.lt b e).1; omega
theorem Box.kept_by {w w' : World} {b : Nat} {t : TypeId} {cs : Array Value} {row : Option Nat} (h : Box w b t cs) (hg : w.grownBy w' row) (hr : row = none ∨ row ≠ some b) : Box w' b t cs :=
  (hg.block b h.lt (fun e => by rcases hr with h1 | h1 <;> simp_all)).trans h
theorem own_slice {w : World} {base t size n : Nat} {v : Value} {xs : List Value} (h : w.ownsRow base t size v n xs) : ∃ A c, v = .slice A n c := by
  rcases h.2 with ⟨hv, h0⟩ | ⟨g, cap, cur, hv, _⟩
  · exact ⟨none, 0, by rw [hv, h0]⟩
  · exact ⟨_, _, hv⟩
theorem two_new (w : World) (t : TypeId) (x y : Value) : ∀ j u, [x, y][j]? = some u → (w.alloc (.cells #[x, y] t)).cell? ((⟨w.heap.size, 0, none⟩ : Addr).add j) = some u := by
  intro j u hj
  have e1 : ∀ i, (⟨w.heap.size, 0, none⟩ : Addr).add i = ⟨w.heap.size, i, none⟩ := fun i => by unfold Addr.add; split <;> simp_all
  rw [e1, (Box.new w t #[x, y]).cell]
  simpa using hj
theorem own_base {w : World} {base B t size n : Nat} {v : Value} {xs : List Value} (h : w.ownsRow base t size v n xs) (hB : B ≤ base) : w.ownsRow B t size v n xs := by
  refine ⟨h.1, ?_⟩
  rcases h.2 with h0 | ⟨g, cap, cur, hv, hb, hr⟩
  · exact .inl h0
  · exact .inr ⟨g, cap, cur, hv, Nat.le_trans hB hb, hr⟩
/-- Seven cells of one block stored. -/
def set7 (w : World) (b : Nat) (v0 v1 v2 v3 v4 v5 v6 : Value) : World := ((((((w.setCell ⟨b, 0, none⟩ v0).setCell ⟨b, 1, none⟩ v1).setCell ⟨b, 2, none⟩ v2).setCell ⟨b, 3, none⟩ v3).setCell ⟨b, 4, none⟩ v4).setCell ⟨b, 5, none⟩ v5).setCell ⟨b, 6, none⟩ v6
theorem set7_box {w : World} {b t : Nat} {z0 z1 z2 z3 z4 z5 z6 : Value} (h : Box w b t #[z0, z1, z2, z3, z4, z5, z6]) (v0 v1 v2 v3 v4 v5 v6 : Value) : Box (set7 w b v0 v1 v2 v3 v4 v5 v6) b t #[v0, v1, v2, v3, v4, v5, v6] := by
  unfold set7
  have h0 : Box _ b t #[v0, z1, z2, z3, z4, z5, z6] := h.set 0 v0
  have h1 : Box _ b t #[v0, v1, z2, z3, z4, z5, z6] := h0.set 1 v1
  have h2 : Box _ b t #[v0, v1, v2, z3, z4, z5, z6] := h1.set 2 v2
  have h3 : Box _ b t #[v0, v1, v2, v3, z4, z5, z6] := h2.set 3 v3
  have h4 : Box _ b t #[v0, v1, v2, v3, v4, z5, z6] := h3.set 4 v4
  have h5 : Box _ b t #[v0, v1, v2, v3, v4, v5, z6] := h4.set 5 v5
  have h6 : Box _ b t #[v0, v1, v2, v3, v4, v5, v6] := h5.set 6 v6
  exact h6
theorem set7_off (w : World) (b : Nat) (v0 v1 v2 v3 v4 v5 v6 : Value) : Off (· = b) w (set7 w b v0 v1 v2 v3 v4 v5 v6) := by
  unfold set7
  have h0 := Off.refl (· = b) w
  have h1 := h0.set (p := ⟨b, 0, none⟩) (.inl rfl) v0
  have h2 := h1.set (p := ⟨b, 1, none⟩) (.inl rfl) v1
  have h3 := h2.set (p := ⟨b, 2, none⟩) (.inl rfl) v2
  have h4 := h3.set (p := ⟨b, 3, none⟩) (.inl rfl) v3
  have h5 := h4.set (p := ⟨b, 4, none⟩) (.inl rfl) v4
  have h6 := h5.set (p := ⟨b, 5, none⟩) (.inl rfl) v5
  have h7 := h6.set (p := ⟨b, 6, none⟩) (.inl rfl) v6
  exact h7
/-- A store into one block of another type. -/
theorem own_set {w : World} {base n size : Nat} {v : Value} {xs : List Value} {b t t' : Nat} {cs : Array Value} (h : w.ownsRow base t size v n xs) (hb : Box w b t' cs) (hne : t' ≠ t) (i : Nat) (u : Value) :
    (w.setCell ⟨b, i, none⟩ u).ownsRow base t size v n xs ∧ Box (w.setCell ⟨b, i, none⟩ u) b t' (cs.setIfInBounds i u) :=
  ⟨own_off h (Off.one w ⟨b, i, none⟩ u) (own_ne h hb hne), hb.set i u⟩
theorem own_zero {w : World} {base n : Nat} {v : Value} {xs : List Value} {b : Nat} {cs : Array Value} {u0 u1 u2 u3 u4 u5 u6 : Value} (h : w.ownsRow base 62 2 v n xs) (hb : Box w b 39 cs) :
    (((((((w.setCell ⟨b, 0, none⟩ u0).setCell ⟨b, 1, none⟩ u1).setCell ⟨b, 2, none⟩ u2).setCell ⟨b, 3, none⟩ u3).setCell ⟨b, 4, none⟩ u4).setCell ⟨b, 5, none⟩ u5).setCell ⟨b, 6, none⟩ u6).ownsRow base 62 2 v n xs := by
  obtain ⟨h, hb⟩ := own_set h hb (by decide) 0 u0
  obtain ⟨h, hb⟩ := own_set h hb (by decide) 1 u1
  obtain ⟨h, hb⟩ := own_set h hb (by decide) 2 u2
  obtain ⟨h, hb⟩ := own_set h hb (by decide) 3 u3
  obtain ⟨h, hb⟩ := own_set h hb (by decide) 4 u4
  obtain ⟨h, hb⟩ := own_set h hb (by decide) 5 u5
  obtain ⟨h, hb⟩ := own_set h hb (by decide) 6 u6
  exact h
def recsC (L : List RX) : List Value := L.flatMap fun x => (recC x.1 x.2.1 x.2.2).toList
theorem recsC_snoc (L : List RX) (x : RX) : recsC (L ++ [x]) = recsC L ++ (recC x.1 x.2.1 x.2.2).toList := by simp [recsC]
/-- Records in memory of the call's own. -/
structure RowR (w : World) (base : Nat) (v : Value) (L : List RX) : Prop where
  row : w.ownsRow base 39 7 v L.length (recsC L)
  heads : ∀ x ∈ L, w.ownsRow base 62 2 (.slice x.2.1 x.1.heads.length x.2.2) x.1.heads.length (headCells x.1.heads)
section
variable {w w' : World} {base : Nat} {v : Value} {L : List RX}
theorem RowR.nil (w : World) (base : Nat) : RowR w base (.slice none 0 0) [] := ⟨World.ownsRow_nil _ _ _ _, fun x hx => by cases hx⟩
theorem RowR.later (h : RowR w base v L) (hb : Below w.heap.size w w') : RowR w' base v L := ⟨own_below h.row hb, fun x hx => own_below (h.heads x hx) hb⟩
/-- A store into a block of another type. -/
theorem RowR.set {b t : Nat} {cs : Array Value} (h : RowR w base v L) (hb : Box w b t cs) (h1 : t ≠ 39) (h2 : t ≠ 62) (i : Nat) (u : Value) : RowR (w.setCell ⟨b, i, none⟩ u) base v L :=
  ⟨own_off h.row (Off.one w ⟨b, i, none⟩ u) (own_ne h.row hb h1), fun x hx => own_off (h.heads x hx) (Off.one w ⟨b, i, none⟩ u) (own_ne (h.heads x hx) hb h2)⟩
/-- Two rows of other types are two. -/
theorem own_two {b1 b2 n1 n2 z1 z2 : Nat} {t1 t2 : TypeId} {v1 v2 : Value} {x1 x2 : List Value} (h1 : w.ownsRow b1 t1 z1 v1 n1 x1) (h2 : w.ownsRow b2 t2 z2 v2 n2 x2) (hne : t1 ≠ t2) : v1.ownBlock = none ∨ v1.ownBlock ≠ v2.ownBlock := by
  rcases h1.2 with ⟨rfl, _⟩ | ⟨g, cap, cur, rfl, _, hg, _⟩
  · exact .inl rfl
  · refine .inr fun e => ?_
    rcases h2.2 with ⟨rfl, _⟩ | ⟨g2, cap2, cur2, rfl, _, hg2, _⟩
    · cases e
    · have : g = g2 := by simpa [Value.ownBlock] using e
      subst this
      rw [hg] at hg2
      injection hg2 with e2
      injection e2 with _ e3 _
      exact hne e3
theorem RowR.grow {v' : Value} {x : RX} (h : RowR w base v L) (hh : w.ownsRow base 62 2 (.slice x.2.1 x.1.heads.length x.2.2) x.1.heads.length (headCells x.1.heads))
    (ho : w'.ownsRow base 39 7 v' (L.length + 1) (recsC L ++ (recC x.1 x.2.1 x.2.2).toList)) (hg : w.grownBy w' v.ownBlock) : RowR w' base v' (L ++ [x]) := by
  refine ⟨by rw [recsC_snoc, List.length_append]; exact ho, fun y hy => ?_⟩
  rw [List.mem_append] at hy
  rcases hy with hy | hy
  · exact (h.heads y hy).kept hg (own_two (h.heads y hy) h.row (by decide))
  · simp at hy
    subst hy
    exact hh.kept hg (own_two hh h.row (by decide))
end
theorem news_at {w : World} {g : Nat} {t : TypeId} {cs : Array Value} (h : Box w g t cs) : ∀ j u, cs.toList[j]? = some u → w.cell? ((⟨g, 0, none⟩ : Addr).add j) = some u := by
  intro j u hu
  have e1 : (⟨g, 0, none⟩ : Addr).add j = ⟨g, j, none⟩ := by unfold Addr.add; split <;> simp_all
  rw [e1, h.cell j]
  simpa using hu
theorem recInfo : (Tryd.prog.info? 39).map (fun i => (i.zero, i.size, i.bytes)) = some (some (.agg #[.int .i64 0, .int .i64 0, .bool false, .string ⟨#[]⟩, .bool false, .string ⟨#[]⟩, .slice none 0 0]), 7, 88) := by kernel_rfl
theorem rec_one (r : Rec) (A : Option Addr) (c : Nat) : ∀ u ∈ (recC r A c).toList, u.oneCell' = true := by
  intro u hu
  unfold recC at hu
  simp at hu
  rcases hu with rfl | rfl | rfl | rfl | rfl | rfl | rfl <;> rfl
def bset (w : World) (g : Nat) (v0 v1 v2 v3 v4 v5 : Value) : World := (((((w.setCell ⟨g, 0, none⟩ v0).setCell ⟨g, 1, none⟩ v1).setCell ⟨g, 2, none⟩ v2).setCell ⟨g, 3, none⟩ v3).setCell ⟨g, 4, none⟩ v4).setCell ⟨g, 5, none⟩ v5
theorem bset_box {w : World} {g t : Nat} {z0 z1 z2 z3 z4 z5 : Value} (h : Box w g t #[z0, z1, z2, z3, z4, z5]) (v0 v1 v2 v3 v4 v5 : Value) : Box (bset w g v0 v1 v2 v3 v4 v5) g t #[v0, v1, v2, v3, v4, v5] := by
  unfold bset
  have h0 : Box _ g t #[v0, z1, z2, z3, z4, z5] := h.set 0 v0
  have h1 : Box _ g t #[v0, v1, z2, z3, z4, z5] := h0.set 1 v1
  have h2 : Box _ g t #[v0, v1, v2, z3, z4, z5] := h1.set 2 v2
  have h3 : Box _ g t #[v0, v1, v2, v3, z4, z5] := h2.set 3 v3
  have h4 : Box _ g t #[v0, v1, v2, v3, v4, z5] := h3.set 4 v4
  have h5 : Box _ g t #[v0, v1, v2, v3, v4, v5] := h4.set 5 v5
  exact h5
theorem bset_off (w : World) (g : Nat) (v0 v1 v2 v3 v4 v5 : Value) : Off (· = g) w (bset w g v0 v1 v2 v3 v4 v5) := by
  unfold bset
  have h0 := Off.refl (· = g) w
  have h1 := h0.set (p := ⟨g, 0, none⟩) (.inl rfl) v0
  have h2 := h1.set (p := ⟨g, 1, none⟩) (.inl rfl) v1
  have h3 := h2.set (p := ⟨g, 2, none⟩) (.inl rfl) v2
  have h4 := h3.set (p := ⟨g, 3, none⟩) (.inl rfl) v3
  have h5 := h4.set (p := ⟨g, 4, none⟩) (.inl rfl) v4
  have h6 := h5.set (p := ⟨g, 5, none⟩) (.inl rfl) v5
  exact h6
theorem box_six {w : World} {g t : Nat} {v0 v1 v2 v3 v4 v5 : Value} (h : Box w g t #[v0, v1, v2, v3, v4, v5]) : w.cell? ⟨g, 0, none⟩ = some v0 ∧ w.cell? ⟨g, 1, none⟩ = some v1 ∧ w.cell? ⟨g, 2, none⟩ = some v2 ∧ w.cell? ⟨g, 3, none⟩ = some v3 ∧ w.cell? ⟨g, 4, none⟩ = some v4 ∧ w.cell? ⟨g, 5, none⟩ = some v5 ∧
    w.frozen? ⟨g, 0, none⟩ = false ∧ w.frozen? ⟨g, 1, none⟩ = false ∧ w.frozen? ⟨g, 2, none⟩ = false ∧ w.frozen? ⟨g, 3, none⟩ = false ∧ w.frozen? ⟨g, 4, none⟩ = false ∧ w.frozen? ⟨g, 5, none⟩ = false :=
  ⟨by rw [h.cell]; rfl, by rw [h.cell]; rfl, by rw [h.cell]; rfl, by rw [h.cell]; rfl, by rw [h.cell]; rfl, by rw [h.cell]; rfl, h.frozen 0, h.frozen 1, h.frozen 2, h.frozen 3, h.frozen 4, h.frozen 5⟩
theorem below_off {W w w' : World} {g : Nat} (h : Below W.heap.size W w) (ho : Off (· = g) w w') (hg : W.heap.size ≤ g) : Below W.heap.size W w' := h.trans (ho.below h.size (fun k e => by rw [e]; exact hg))
theorem recsC_at : ∀ {L : List RX} {j i : Nat} {x : RX}, L[j]? = some x → i < 7 → (recsC L)[j * 7 + i]? = (recC x.1 x.2.1 x.2.2)[i]?
  | [], j, i, x, h, _ => by cases h
  | y :: l, 0, i, x, h, hi => by
    have e : y = x := by simpa using h
    subst e
    have hl : (recC y.1 y.2.1 y.2.2).toList.length = 7 := rfl
    show ((recC y.1 y.2.1 y.2.2).toList ++ recsC l)[0 * 7 + i]? = _
    rw [List.getElem?_append_left (by omega), Nat.zero_mul, Nat.zero_add, Array.getElem?_toList]
  | y :: l, j + 1, i, x, h, hi => by
    have hl : (recC y.1 y.2.1 y.2.2).toList.length = 7 := rfl
    show ((recC y.1 y.2.1 y.2.2).toList ++ recsC l)[(j + 1) * 7 + i]? = _
    rw [List.getElem?_append_right (by omega), hl, show (j + 1) * 7 + i - 7 = j * 7 + i by omega]
    exact recsC_at (by simpa using h) hi
section
variable {W w w' : World} {base span prod epoch seq : Int} {A : Option Addr} {c : Nat} {L : List RX}
theorem RsIn.off {S : Nat → Prop} (h : RsIn w A L) (ho : Off S w w') (hs : ∀ g, A = some g → ¬ S g.block) (hh : ∀ x ∈ L, ∀ g, x.2.1 = some g → ¬ S g.block) : RsIn w' A L := fun hp => by
  obtain ⟨b, off, rfl, hlt, hc⟩ := h hp
  have hn := hs _ rfl
  refine ⟨b, off, rfl, Nat.lt_of_lt_of_le hlt ho.size, fun j x hx => ⟨?_, ?_⟩⟩
  · obtain ⟨h0, h1, h2, h3, h4, h5, h6⟩ := (hc j x hx).1
    have k := fun i => ho.cell (p := ⟨b, i, none⟩) hlt hn
    exact ⟨(k _).trans h0, (k _).trans h1, (k _).trans h2, (k _).trans h3, (k _).trans h4, (k _).trans h5, (k _).trans h6⟩
  · obtain ⟨a1, a2, a3, a4, a5⟩ := (hc j x hx).2
    refine ⟨fun hp => ?_, a2, a3, a4, a5⟩
    obtain ⟨g, o, e, hl, hcs⟩ := a1 hp
    have hn2 := hh x (List.mem_of_getElem? hx) _ e
    refine ⟨g, o, e, Nat.lt_of_lt_of_le hl ho.size, fun i y hy => ?_⟩
    have k := fun i => ho.cell (p := ⟨g, i, none⟩) hl hn2
    exact ⟨(k _).trans (hcs i y hy).1, (k _).trans (hcs i y hy).2⟩
theorem row_ne {base' n z cap len : Nat} {t t' : TypeId} {A : Option Addr} {xs : List Value} {cs : Array Value} {b : Nat} (h : w.ownsRow base' t z (.slice A len cap) n xs) (hb : Box w b t' cs) (hne : t' ≠ t) : ∀ g, A = some g → g.block ≠ b := by
  intro g hg
  subst hg
  have := own_ne h hb hne g.block
  rcases h.2 with ⟨hv, _⟩ | ⟨g2, cap2, cur, hv, _⟩
  · cases hv
  · injection hv with e1 _ _
    injection e1 with e1
    subst e1
    exact this rfl
end
theorem recC_zero : (Value.agg #[.int .i64 0, .int .i64 0, .bool false, .string ⟨#[]⟩, .bool false, .string ⟨#[]⟩, .slice none 0 0]).cells.size = 7 := rfl
/-- A row through stores into one block of another type. -/
theorem RowR.bset {w : World} {base g t : Nat} {v : Value} {L : List RX} {z0 z1 z2 z3 z4 z5 : Value} (h : RowR w base v L) (hb : Box w g t #[z0, z1, z2, z3, z4, z5]) (h1 : t ≠ 39) (h2 : t ≠ 62) (v0 v1 v2 v3 v4 v5 : Value) : RowR (bset w g v0 v1 v2 v3 v4 v5) base v L :=
  ⟨own_off h.row (bset_off w g v0 v1 v2 v3 v4 v5) (fun k e => own_ne h.row hb h1 k e), fun x hx => own_off (h.heads x hx) (bset_off w g v0 v1 v2 v3 v4 v5) (fun k e => own_ne (h.heads x hx) hb h2 k e)⟩
theorem RowR.base {w : World} {base base' : Nat} {v : Value} {L : List RX} (h : RowR w base v L) (hb : base' ≤ base) : RowR w base' v L := ⟨own_base h.row hb, fun x hx => own_base (h.heads x hx) hb⟩
/-- A batch and where its records lie. -/
abbrev BX := BN × List RX × Option Addr × Nat
def batsC (L : List BX) : List Value := L.flatMap fun x => (bnC x.1 (.slice x.2.2.1 x.2.1.length x.2.2.2)).toList
theorem batsC_snoc (L : List BX) (x : BX) : batsC (L ++ [x]) = batsC L ++ (bnC x.1 (.slice x.2.2.1 x.2.1.length x.2.2.2)).toList := by simp [batsC]
/-- What a batch holds. -/
def BX.told (x : BX) : BN × List Rec := (x.1, x.2.1.map (·.1))
/-- Batches in memory of the call's own. -/
structure BtsR (w : World) (base : Nat) (v : Value) (L : List BX) : Prop where
  row : w.ownsRow base 29 6 v L.length (batsC L)
  recs : ∀ x ∈ L, RowR w base (.slice x.2.2.1 x.2.1.length x.2.2.2) x.2.1
section
variable {w w' : World} {base : Nat} {v : Value} {L : List BX}
theorem BtsR.nil (w : World) (base : Nat) : BtsR w base (.slice none 0 0) [] := ⟨World.ownsRow_nil _ _ _ _, fun x hx => by cases hx⟩
theorem BtsR.later (h : BtsR w base v L) (hb : Below w.heap.size w w') : BtsR w' base v L := ⟨own_below h.row hb, fun x hx => (h.recs x hx).later hb⟩
theorem RowR.kept {v' : Value} {K : List RX} {n : Nat} {xs : List Value} (h : RowR w base v' K) (ho : w.ownsRow base 29 6 v n xs) (hg : w.grownBy w' v.ownBlock) : RowR w' base v' K :=
  ⟨h.row.kept hg (own_two h.row ho (by decide)), fun y hy => (h.heads y hy).kept hg (own_two (h.heads y hy) ho (by decide))⟩
theorem BtsR.grow {v' : Value} {x : BX} (h : BtsR w base v L) (hh : RowR w base (.slice x.2.2.1 x.2.1.length x.2.2.2) x.2.1)
    (ho : w'.ownsRow base 29 6 v' (L.length + 1) (batsC L ++ (bnC x.1 (.slice x.2.2.1 x.2.1.length x.2.2.2)).toList)) (hg : w.grownBy w' v.ownBlock) : BtsR w' base v' (L ++ [x]) := by
  refine ⟨by rw [batsC_snoc, List.length_append]; exact ho, fun y hy => ?_⟩
  rw [List.mem_append] at hy
  rcases hy with hy | hy
  · exact (h.recs y hy).kept h.row hg
  · simp at hy
    subst hy
    exact hh.kept h.row hg
end
theorem batInfo : (Tryd.prog.info? 29).map (fun i => (i.zero, i.size, i.bytes)) = some (some (.agg #[.int .i64 0, .int .i64 0, .int .i64 0, .int .i64 0, .int .i64 0, .slice none 0 0]), 6, 64) := by kernel_rfl
theorem bat_one (b : BN) (A : Option Addr) (n c : Nat) : ∀ u ∈ (bnC b (.slice A n c)).toList, u.oneCell' = true := by
  intro u hu
  unfold bnC at hu
  simp at hu
  rcases hu with rfl | rfl | rfl | rfl | rfl | rfl <;> rfl
theorem batC_zero : (Value.agg #[.int .i64 0, .int .i64 0, .int .i64 0, .int .i64 0, .int .i64 0, .slice none 0 0]).cells.size = 6 := rfl
theorem str_same (a b : ByteArray) : (a.toList == b.toList) = decide (a = b) := by
  rw [Bool.eq_iff_iff, beq_iff_eq, decide_eq_true_eq, ByteArray.toList_eq, ByteArray.toList_eq]
  constructor
  · intro h; exact ByteArray.ext (Array.ext' h)
  · rintro rfl; rfl
theorem hin_cells {w : World} {b off : Nat} {hs : List Hd} (h : HIn w (some ⟨b, off, none⟩) hs) : ∀ j u, (headCells hs)[j]? = some u → w.cell? ((⟨b, off, none⟩ : Addr).add j) = some u := by
  intro j u hj
  have hl : j < (headCells hs).length := (List.getElem?_eq_some_iff.1 hj).1
  rw [headCells_len] at hl
  obtain ⟨b', off', e, _, hc⟩ := h (by omega)
  injection e with e
  injection e with e1 e2 _
  subst e1
  subst e2
  have hi : j / 2 < hs.length := by omega
  obtain ⟨q1, q2⟩ := hc (j / 2) _ (List.getElem?_eq_getElem hi)
  obtain ⟨p1, p2⟩ := headCells_at (List.getElem?_eq_getElem hi)
  have ea : (⟨b, off, none⟩ : Addr).add j = ⟨b, off + j, none⟩ := by unfold Addr.add; split <;> simp_all
  rw [ea]
  rcases (by omega : j = j / 2 * 2 ∨ j = j / 2 * 2 + 1) with e | e
  · rw [e] at hj
    rw [p1] at hj
    rw [e, q1]
    exact hj
  · rw [e] at hj
    rw [p2] at hj
    rw [e, show off + (j / 2 * 2 + 1) = off + j / 2 * 2 + 1 by omega, q2]
    exact hj
theorem headCells_one (hs : List Hd) : ∀ u ∈ headCells hs, u.oneCell' = true := by
  intro u hu
  simp only [headCells, List.mem_flatMap] at hu
  obtain ⟨h, _, hm⟩ := hu
  simp at hm
  rcases hm with rfl | rfl <;> rfl
def BxAt (w : World) (b o : Nat) (x : BX) : Prop :=
  w.cell? ⟨b, o, none⟩ = some (.int .i64 x.1.base) ∧ w.cell? ⟨b, o + 1, none⟩ = some (.int .i64 x.1.span) ∧ w.cell? ⟨b, o + 2, none⟩ = some (.int .i64 x.1.prod) ∧ w.cell? ⟨b, o + 3, none⟩ = some (.int .i64 x.1.epoch) ∧
    w.cell? ⟨b, o + 4, none⟩ = some (.int .i64 x.1.seq) ∧ w.cell? ⟨b, o + 5, none⟩ = some (.slice x.2.2.1 x.2.1.length x.2.2.2)
/-- A list of batches in memory. -/
def BsIn (w : World) (A : Option Addr) (L : List BX) : Prop :=
  0 < L.length → ∃ b off, A = some ⟨b, off, none⟩ ∧ b < w.heap.size ∧ ∀ j x, L[j]? = some x → BxAt w b (off + j * 6) x ∧ RsIn w x.2.2.1 x.2.1
theorem BxAt.below {w w' : World} {b o : Nat} {x : BX} (h : BxAt w b o x) (hl : b < w.heap.size) (hb : Below w.heap.size w w') : BxAt w' b o x := by
  obtain ⟨h0, h1, h2, h3, h4, h5⟩ := h
  have c := fun i => hb.cell (p := ⟨b, i, none⟩) hl
  exact ⟨(c _).trans h0, (c _).trans h1, (c _).trans h2, (c _).trans h3, (c _).trans h4, (c _).trans h5⟩
theorem BsIn.below {w w' : World} {A : Option Addr} {L : List BX} (h : BsIn w A L) (hb : Below w.heap.size w w') : BsIn w' A L := fun hp => by
  obtain ⟨b, off, e, hlt, hc⟩ := h hp
  exact ⟨b, off, e, Nat.lt_of_lt_of_le hlt hb.size, fun j x hx => ⟨(hc j x hx).1.below hlt hb, (hc j x hx).2.below hb⟩⟩
theorem batsC_at : ∀ {L : List BX} {j i : Nat} {x : BX}, L[j]? = some x → i < 6 → (batsC L)[j * 6 + i]? = (bnC x.1 (.slice x.2.2.1 x.2.1.length x.2.2.2))[i]?
  | [], j, i, x, h, _ => by cases h
  | y :: l, 0, i, x, h, hi => by
    have e : y = x := by simpa using h
    subst e
    have hl : (bnC y.1 (.slice y.2.2.1 y.2.1.length y.2.2.2)).toList.length = 6 := rfl
    show ((bnC y.1 (.slice y.2.2.1 y.2.1.length y.2.2.2)).toList ++ batsC l)[0 * 6 + i]? = _
    rw [List.getElem?_append_left (by omega), Nat.zero_mul, Nat.zero_add, Array.getElem?_toList]
  | y :: l, j + 1, i, x, h, hi => by
    have hl : (bnC y.1 (.slice y.2.2.1 y.2.1.length y.2.2.2)).toList.length = 6 := rfl
    show ((bnC y.1 (.slice y.2.2.1 y.2.1.length y.2.2.2)).toList ++ batsC l)[(j + 1) * 6 + i]? = _
    rw [List.getElem?_append_right (by omega), hl, show (j + 1) * 6 + i - 6 = j * 6 + i by omega]
    exact batsC_at (by simpa using h) hi
end Go.Proofs.YtdclkhbolmbnmaaDoor
