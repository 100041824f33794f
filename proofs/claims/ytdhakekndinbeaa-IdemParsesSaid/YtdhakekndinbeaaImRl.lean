/- idem: rows of the document's structs: appended, cut, stored; what the document's Note comes to: plain words. No condition but that they are not too many. -/
import Derived.Test.YtdhakekndinbeaaImNi
import Derived.Maps.AppendAt
import Derived.Deep.AppendLies
namespace Go.Proofs.Ytdhakekndinbeaa
open Go.RowKit
set_option linter.unusedVariables false
theorem oneInfo : (Try.prog.info? 73).map (fun i => (i.zero, i.size, i.bytes)) = some (some (.agg #[.int .i64 0, .int .i64 0, .slice none 0 0]), 3, 40) := by kernel_rfl
theorem sntInfo : (Try.prog.info? 75).map (fun i => (i.zero, i.size, i.bytes)) = some (some (.agg #[.int .i64 0, .int .i64 0, .int .i64 0]), 3, 24) := by kernel_rfl
/-- What a slice reads as, cell by cell; nil where it has no place. -/
def SrcR (w : World) (u : Value) (m : Nat) (ys : List Value) : Prop :=
  (∃ c, u = .slice none 0 c ∧ m = 0 ∧ ys = []) ∨ ∃ a c, u = .slice (some a) m c ∧ ys.length = m * 3 ∧ ∀ j y, ys[j]? = some y → w.cell? (a.add j) = some y
theorem append_none {e t : TypeId} (ht : Try.prog.underlying t = some (.slice e)) (v : Value) (c : Nat) (hv : v = .slice none 0 0 ∨ ∃ a n m, v = .slice (some a) n m ∧ n ≤ m) (w : World) {i0 : TypeInfo} (hi : Try.prog.info? e = some i0) :
    (Builtin.append_ #[t, t] t #[v, .slice none 0 c]).run Try.prog w = .ok v w := by
  rcases hv with rfl | ⟨a, n, m, rfl, hnm⟩
  · simp [Builtin.append_, run_underlying ht, sizeOf, typeInfo, hi, Builtin.lenOf, Builtin.firstCells]
  · simp [Builtin.append_, run_underlying ht, sizeOf, typeInfo, hi, Builtin.lenOf, Builtin.firstCells, hnm, storeCells]
theorem own_room {w : World} {base t size n : Nat} {v : Value} {xs : List Value} (h : w.ownsRow base t size v n xs) : v = .slice none 0 0 ∨ ∃ a n m, v = .slice (some a) n m ∧ n ≤ m := by
  rcases h.2 with ⟨hv, _⟩ | ⟨g, cap', cur, hv, hg, hh, h4, h5, h6, h7⟩
  · exact .inl hv
  · exact .inr ⟨_, _, _, hv, h4⟩
/-- One row behind another one. -/
theorem cat3 {e t : TypeId} {w : World} {base n m : Nat} {v u z : Value} {xs ys : List Value} {by_ : Nat} (ht : Try.prog.underlying t = some (.slice e)) (hinfo : (Try.prog.info? e).map (fun i => (i.zero, i.size, i.bytes)) = some (some z, 3, by_)) (hz : z.cells.size = 3) (hby : by_ ≤ 64)
    (hown : w.ownsRow base e 3 v n xs) (hsrc : SrcR w u m ys) (h1 : ∀ y ∈ ys, y.oneCell' = true) (hb : base ≤ w.heap.size) (hn : n + m ≤ 2000000) :
    ∃ (A' : Option Addr) (c' : Nat) (w' : World), (Builtin.append_ #[t, t] t #[v, u]).run Try.prog w = .ok (.slice A' (n + m) c') w' ∧ w'.ownsRow base e 3 (.slice A' (n + m) c') (n + m) (xs ++ ys) ∧ w.grownBy w' v.ownBlock := by
  obtain ⟨i0, hi, hz0, hz1, hz2⟩ := info_parts hinfo
  rcases hsrc with ⟨c, rfl, rfl, rfl⟩ | ⟨a, c, rfl, hl, hc⟩
  · have hr := append_none ht v c (own_room hown) w hi
    rcases hown.2 with ⟨hv, h0⟩ | ⟨g, cap', cur, hv, _⟩
    · subst hv h0
      exact ⟨none, 0, w, hr, by simpa using hown, ⟨rfl, rfl, rfl, Nat.le_refl _, fun _ _ _ => rfl⟩⟩
    · subst hv
      exact ⟨_, _, w, hr, by simpa using hown, ⟨rfl, rfl, rfl, Nat.le_refl _, fun _ _ _ => rfl⟩⟩
  · obtain ⟨v', w', k1, k2, k3, k4, k5⟩ := run_append_own_at (P := Try.prog) (w := w) base t t e i0 z 3 by_ ht hi hz0 hz1 hz2 hz (by decide) v n xs hown a m c ys hl hc h1 (by unfold maxLen; omega) (by have := Nat.mul_le_mul_left (n + m) hby; omega) hb
    rcases k2.2 with ⟨hv, h0⟩ | ⟨g, cap', cur, hv, _⟩
    · subst hv
      rw [show n + m = 0 from h0] at k2 ⊢
      exact ⟨none, 0, w', k1, k2, k3⟩
    · subst hv
      exact ⟨_, _, w', k1, k2, k3⟩
theorem wpList_append_run {P : Program} {w w' : World} {ops : Array Oper} {rest : List Oper} {o : Oper} {a : Act} {Q : Exit → Act → World → Prop} (hgd : o.guard = none) (s x : Operand) (t : TypeId) (ho : o.op = .call { callee := .builtin .append, args := #[s, x], argTypes := #[t, t] })
    (v u v' : Value) (hs : a.eval s = v) (hx : a.eval x = u) (hr : (Builtin.append_ #[t, t] o.type #[v, u]).run P w = .ok v' w') (h : wpList P ops Q rest (a.put o.dst v') w') : wpList P ops Q (o :: rest) a w := by
  refine wpList_plain hgd fun K hK => ?_
  unfold Oper.wp execOp
  simp only [ho, resolve, invoke, builtin, Sem.run_bind, Sem.run_pure, Result.andThen_ok, List.map_toArray, List.map_cons, List.map_nil, hs, hx, hr]
  exact hK _ _ h
/-- A window's cells. -/
def snC (L : List SN) : List Value := L.flatMap fun s => [.int .i64 s.1, .int .i64 s.2.1, .int .i64 s.2.2]
theorem snC_len (L : List SN) : (snC L).length = L.length * 3 := by
  induction L with
  | nil => rfl
  | cons x l ih => show (_ :: _ :: _ :: snC l).length = _; simp only [List.length_cons, ih]; omega
theorem snC_at : ∀ {L : List SN} {j : Nat} {e : SN}, L[j]? = some e → (snC L)[j * 3]? = some (.int .i64 e.1) ∧ (snC L)[j * 3 + 1]? = some (.int .i64 e.2.1) ∧ (snC L)[j * 3 + 2]? = some (.int .i64 e.2.2)
  | [], j, e, h => by cases h
  | x :: l, 0, e, h => by
    have : x = e := by simpa using h
    subst this
    exact ⟨rfl, rfl, rfl⟩
  | x :: l, j + 1, e, h => by
    have ih := snC_at (L := l) (j := j) (e := e) (by simpa using h)
    have hl : [Value.int .i64 x.1, Value.int .i64 x.2.1, Value.int .i64 x.2.2].length = 3 := rfl
    show ([_, _, _] ++ snC l)[(j + 1) * 3]? = _ ∧ ([_, _, _] ++ snC l)[(j + 1) * 3 + 1]? = _ ∧ ([_, _, _] ++ snC l)[(j + 1) * 3 + 2]? = _
    rw [List.getElem?_append_right (by rw [hl]; omega), List.getElem?_append_right (by rw [hl]; omega), List.getElem?_append_right (by rw [hl]; omega), hl]
    rw [show (j + 1) * 3 - 3 = j * 3 by omega, show (j + 1) * 3 + 1 - 3 = j * 3 + 1 by omega, show (j + 1) * 3 + 2 - 3 = j * 3 + 2 by omega]
    exact ih
theorem snC_one (L : List SN) : ∀ y ∈ snC L, y.oneCell' = true := by
  intro y hy
  obtain ⟨s, _, hs⟩ := List.mem_flatMap.1 hy
  simp at hs
  rcases hs with rfl | rfl | rfl <;> rfl
/-- Cell i of those of a row of threes. -/
theorem snC_any {L : List SN} {i : Nat} {y : Value} (h : (snC L)[i]? = some y) : ∃ j s, L[j]? = some s ∧ ((i = j * 3 ∧ y = .int .i64 s.1) ∨ (i = j * 3 + 1 ∧ y = .int .i64 s.2.1) ∨ (i = j * 3 + 2 ∧ y = .int .i64 s.2.2)) := by
  have hi : i < L.length * 3 := by rw [← snC_len]; exact (List.getElem?_eq_some_iff.1 h).1
  obtain ⟨s, hs⟩ : ∃ s, L[i / 3]? = some s := ⟨_, List.getElem?_eq_getElem (by omega)⟩
  obtain ⟨a, b, c⟩ := snC_at hs
  refine ⟨i / 3, s, hs, ?_⟩
  have h3 : i % 3 = 0 ∨ i % 3 = 1 ∨ i % 3 = 2 := by omega
  rcases h3 with e | e | e
  · have : i = i / 3 * 3 := by omega
    rw [← this, h] at a
    exact .inl ⟨this, by injection a⟩
  · have : i = i / 3 * 3 + 1 := by omega
    rw [← this, h] at b
    exact .inr (.inl ⟨this, by injection b⟩)
  · have : i = i / 3 * 3 + 2 := by omega
    rw [← this, h] at c
    exact .inr (.inr ⟨this, by injection c⟩)
theorem src_sn {w : World} {v : Value} {L : List SN} (h : SnAt w v L) : SrcR w v L.length (snC L) := by
  rcases h with ⟨rfl, rfl⟩ | ⟨g, o, c, cur, rfl, h2, h3, h4⟩
  · exact .inl ⟨0, rfl, rfl, rfl⟩
  · refine .inr ⟨_, c, rfl, snC_len L, fun i y hy => ?_⟩
    obtain ⟨j, s, hs, hc⟩ := snC_any hy
    obtain ⟨a, b, d⟩ := h4 j s hs
    rw [add_at]
    unfold World.cell?
    simp only [h2]
    rcases hc with ⟨rfl, rfl⟩ | ⟨rfl, rfl⟩ | ⟨rfl, rfl⟩
    · simpa using a
    · simpa [Nat.add_assoc] using b
    · simpa [Nat.add_assoc] using d
theorem row_cur {w : World} {base e n c g : Nat} {xs : List Value} (h : w.ownsRow base e 3 (.slice (some ⟨g, 0, none⟩) n c) n xs) : ∃ cur : Array Value, w.heap[g]? = some (.cells cur e (0, 0)) ∧ n ≤ c ∧ base ≤ g ∧ ∀ (i : Nat) (y : Value), xs[i]? = some y → cur[i]? = some y := by
  rcases h.2 with ⟨hv, _⟩ | ⟨g', cap', cur, hv, hg, hh, h4, h5, h6, h7⟩
  · cases hv
  · injection hv with e1 _ e3
    injection e1 with e1
    injection e1 with e1
    subst e1 e3
    refine ⟨cur, hh, h4, hg, fun i y hy => ?_⟩
    rw [← h7] at hy
    rw [List.getElem?_take] at hy
    split at hy
    · simpa using hy
    · cases hy
theorem sn_row {w : World} {base n c : Nat} {A : Option Addr} {L : List SN} (h : w.ownsRow base 75 3 (.slice A n c) n (snC L)) (hn : L.length = n) : SnAt w (.slice A n c) L := by
  rcases h.2 with ⟨hv, h0⟩ | ⟨g', cap', cur, hv, _⟩
  · have : L = [] := List.length_eq_zero_iff.1 (by omega)
    exact .inl ⟨hv, this⟩
  · injection hv with e1 e2 e3
    subst e1 e3
    obtain ⟨cur, hh, hc, _, hx⟩ := row_cur h
    subst hn
    refine .inr ⟨g', 0, _, cur, rfl, hh, hc, fun j s hs => ?_⟩
    obtain ⟨a, b, d⟩ := snC_at hs
    exact ⟨by simpa using hx _ _ a, by simpa using hx _ _ b, by simpa using hx _ _ d⟩
theorem sn_tail {w : World} {base n c g : Nat} {L : List SN} (h : w.ownsRow base 75 3 (.slice (some ⟨g, 0, none⟩) (n + 1) c) (n + 1) (snC L)) (hn : L.length = n + 1) : SnAt w (.slice (some ⟨g, 3, none⟩) n (c - 1)) L.tail := by
  obtain ⟨cur, hh, hc, _, hx⟩ := row_cur h
  have hl : L.tail.length = n := by rw [List.length_tail]; omega
  refine .inr ⟨g, 3, c - 1, cur, by rw [hl], hh, by omega, fun j s hs => ?_⟩
  rw [List.getElem?_tail] at hs
  obtain ⟨a, b, d⟩ := snC_at hs
  have e : (j + 1) * 3 = 3 + j * 3 := by omega
  rw [e] at a b d
  exact ⟨hx _ _ a, hx _ _ b, hx _ _ d⟩
theorem snC_snoc (L : List SN) (s : SN) : snC (L ++ [s]) = snC L ++ [.int .i64 s.1, .int .i64 s.2.1, .int .i64 s.2.2] := by unfold snC; rw [List.flatMap_append]; simp
theorem rowK_snoc (K : List RK) (x : RK) : rowK (K ++ [x]) = rowK K ++ [.int .i64 x.1.1, .int .i64 x.1.2.1, x.2] := by unfold rowK rkC; rw [List.flatMap_append]; simp
theorem rowK_append (K M : List RK) : rowK (K ++ M) = rowK K ++ rowK M := by unfold rowK; rw [List.flatMap_append]
theorem rowK_one {w : World} {K : List RK} (h : ∀ x ∈ K, SnAt w x.2 x.1.2.2) : ∀ y ∈ rowK K, y.oneCell' = true := by
  intro y hy
  obtain ⟨x, hx, hs⟩ := List.mem_flatMap.1 hy
  unfold rkC at hs
  obtain ⟨A, c, e⟩ := (h x hx).slc
  simp at hs
  rcases hs with rfl | rfl | rfl
  · rfl
  · rfl
  · rw [e]; rfl
/-- A part of the rows. -/
theorem src_row {w : World} {base n c g : Nat} {K M N : List RK} (h : w.ownsRow base 73 3 (.slice (some ⟨g, 0, none⟩) n c) n (rowK K)) (e : K = M ++ N) (P : List RK) (P' : List RK) (he : N = P ++ P') (o : Nat) (ho : o = M.length * 3) (k : Nat) :
    SrcR w (.slice (some ⟨g, o, none⟩) P.length k) P.length (rowK P) := by
  obtain ⟨cur, hh, hc, _, hx⟩ := row_cur h
  refine .inr ⟨_, k, rfl, rowK_len P, fun j y hy => ?_⟩
  rw [add_at]
  have hj : (rowK K)[o + j]? = some y := by
    rw [e, he, rowK_append, rowK_append, ho, ← rowK_len, List.getElem?_append_right (by omega), Nat.add_sub_cancel_left, List.getElem?_append_left (List.getElem?_eq_some_iff.1 hy).1]
    exact hy
  unfold World.cell?
  simp only [hh]
  simpa using hx _ _ hj
end Go.Proofs.Ytdhakekndinbeaa
