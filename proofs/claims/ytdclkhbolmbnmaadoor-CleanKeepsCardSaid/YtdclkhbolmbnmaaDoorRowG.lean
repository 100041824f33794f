/- Rows of structs of the call's own: appended, cut: plain words. No condition but that they are not too many. -/
import Derived.Test.YtdclkhbolmbnmaaDoorMem
import Derived.Test.YtdclkhbolmbnmaaDoorNum
import Derived.Maps.AppendAt
import Derived.Deep.AppendLies
import Derived.WalkKit
import Derived.Lib.Hide
namespace Go.Proofs.YtdclkhbolmbnmaaDoor
open Go.RowKit
set_option linter.unusedVariables false
/-- What a slice reads as, cell by cell; nil where it has no place. -/
def SrcZ (sz : Nat) (w : World) (u : Value) (m : Nat) (ys : List Value) : Prop :=
  (∃ c, u = .slice none 0 c ∧ m = 0 ∧ ys = []) ∨ ∃ a c, u = .slice (some a) m c ∧ ys.length = m * sz ∧ ∀ j y, ys[j]? = some y → w.cell? (a.add j) = some y
theorem append_none {e t : TypeId} (ht : Tryd.prog.underlying t = some (.slice e)) (v : Value) (c : Nat) (hv : v = .slice none 0 0 ∨ ∃ a n m, v = .slice (some a) n m ∧ n ≤ m) (w : World) {i0 : TypeInfo} (hi : Tryd.prog.info? e = some i0) :
    (Builtin.append_ #[t, t] t #[v, .slice none 0 c]).run Tryd.prog w = .ok v w := by
  rcases hv with rfl | ⟨a, n, m, rfl, hnm⟩
  · simp [Builtin.append_, run_underlying ht, sizeOf, typeInfo, hi, Builtin.lenOf, Builtin.firstCells]
  · simp [Builtin.append_, run_underlying ht, sizeOf, typeInfo, hi, Builtin.lenOf, Builtin.firstCells, hnm, storeCells]
theorem own_room {w : World} {base t size n : Nat} {v : Value} {xs : List Value} (h : w.ownsRow base t size v n xs) : v = .slice none 0 0 ∨ ∃ a n m, v = .slice (some a) n m ∧ n ≤ m := by
  rcases h.2 with ⟨hv, _⟩ | ⟨g, cap', cur, hv, hg, hh, h4, h5, h6, h7⟩
  · exact .inl hv
  · exact .inr ⟨_, _, _, hv, h4⟩
/-- One row behind another one. -/
theorem catZ {e t : TypeId} {w : World} {base n m sz : Nat} {v u z : Value} {xs ys : List Value} {by_ : Nat} (hsz : 0 < sz) (ht : Tryd.prog.underlying t = some (.slice e)) (hinfo : (Tryd.prog.info? e).map (fun i => (i.zero, i.size, i.bytes)) = some (some z, sz, by_)) (hz : z.cells.size = sz) (hby : by_ ≤ 128)
    (hown : w.ownsRow base e sz v n xs) (hsrc : SrcZ sz w u m ys) (h1 : ∀ y ∈ ys, y.oneCell' = true) (hb : base ≤ w.heap.size) (hn : n + m ≤ 2000000) :
    ∃ (A' : Option Addr) (c' : Nat) (w' : World), (Builtin.append_ #[t, t] t #[v, u]).run Tryd.prog w = .ok (.slice A' (n + m) c') w' ∧ w'.ownsRow base e sz (.slice A' (n + m) c') (n + m) (xs ++ ys) ∧ w.grownBy w' v.ownBlock := by
  obtain ⟨i0, hi, hz0, hz1, hz2⟩ := info_parts hinfo
  rcases hsrc with ⟨c, rfl, rfl, rfl⟩ | ⟨a, c, rfl, hl, hc⟩
  · have hr := append_none ht v c (own_room hown) w hi
    rcases hown.2 with ⟨hv, h0⟩ | ⟨g, cap', cur, hv, _⟩
    · subst hv h0
      exact ⟨none, 0, w, hr, by simpa using hown, ⟨rfl, rfl, rfl, Nat.le_refl _, fun _ _ _ => rfl⟩⟩
    · subst hv
      exact ⟨_, _, w, hr, by simpa using hown, ⟨rfl, rfl, rfl, Nat.le_refl _, fun _ _ _ => rfl⟩⟩
  · obtain ⟨v', w', k1, k2, k3, k4, k5⟩ := run_append_own_at (P := Tryd.prog) (w := w) base t t e i0 z sz by_ ht hi hz0 hz1 hz2 hz hsz v n xs hown a m c ys hl hc h1 (by unfold maxLen; omega) (by have := Nat.mul_le_mul_left (n + m) hby; omega) hb
    rcases k2.2 with ⟨hv, h0⟩ | ⟨g, cap', cur, hv, _⟩
    · subst hv
      rw [show n + m = 0 from h0] at k2 ⊢
      exact ⟨none, 0, w', k1, k2, k3⟩
    · subst hv
      exact ⟨_, _, w', k1, k2, k3⟩
theorem wpList_append_run {P : Program} {w w' : World} {ops : Array Oper} {rest : List Oper} {o : Oper} {a : Act} {Q : Exit → Act → World → Prop} (hgd : o.guard = none) (s x : Operand) (t : TypeId) (ho : o.op = .call { callee := .builtin .append, args := #[s, x], argTypes := #[t, t] })
    (v u v' : Value) (hs : a.eval s = v) (hx : a.eval x = u) (hr : (Builtin.append_ #[t, t] o.type #[v, u]).run P w = .ok v' w') (h : wpList P ops Q rest (a.put o.dst v') w') : wpList P ops Q (o :: rest) a w := by
  refine wpList_plain hgd fun K hK => ?_
  unfold Oper.wp execOp
  simp only [ho, resolve, invoke, builtin, Sem.run_bind, Sem.run_pure, Result.andThen_ok, List.map_toArray, List.map_cons, List.map_nil, hs, hx, hr]
  exact hK _ _ h
theorem add_spot (b off i : Nat) : (⟨b, off, none⟩ : Addr).add i = ⟨b, off + i, none⟩ := by unfold Addr.add; split <;> simp_all
theorem rowZ_cur {w : World} {base e sz n c g : Nat} {xs : List Value} (h : w.ownsRow base e sz (.slice (some ⟨g, 0, none⟩) n c) n xs) : ∃ cur : Array Value, w.heap[g]? = some (.cells cur e (0, 0)) ∧ n ≤ c ∧ base ≤ g ∧ ∀ (i : Nat) (y : Value), xs[i]? = some y → cur[i]? = some y := by
  rcases h.2 with ⟨hv, _⟩ | ⟨g', cap', cur, hv, hg, hh, h4, h5, h6, h7⟩
  · cases hv
  · injection hv with e1 _ e3
    injection e1 with e1
    injection e1 with e1
    subst e1 e3
    refine ⟨cur, hh, h4, hg, fun i y hy => ?_⟩
    rw [← h7] at hy
    rw [List.getElem?_take] at hy
    split at hy
    · simpa using hy
    · cases hy
/-- A part of a row. -/
theorem src_part {w : World} {base e sz n c g : Nat} {xs P Q R : List Value} (h : w.ownsRow base e sz (.slice (some ⟨g, 0, none⟩) n c) n xs) (he : xs = P ++ (Q ++ R)) (m o : Nat) (ho : o = P.length) (hm : Q.length = m * sz) (k : Nat) :
    SrcZ sz w (.slice (some ⟨g, o, none⟩) m k) m Q := by
  obtain ⟨cur, hh, hc, _, hx⟩ := rowZ_cur h
  refine .inr ⟨_, k, rfl, hm, fun j y hy => ?_⟩
  rw [add_spot]
  have hj : xs[o + j]? = some y := by
    rw [he, ho, List.getElem?_append_right (by omega), Nat.add_sub_cancel_left, List.getElem?_append_left (List.getElem?_eq_some_iff.1 hy).1]
    exact hy
  unfold World.cell?
  simp only [hh]
  simpa using hx _ _ hj
/-- A row stays while another block grows. -/
theorem rowZ_kept {w w' : World} {base e sz n : Nat} {v : Value} {xs : List Value} {row : Option Nat} (h : w.ownsRow base e sz v n xs) (hg : w.grownBy w' row) (hne : ∀ k, v.ownBlock = some k → row ≠ some k) : w'.ownsRow base e sz v n xs := by
  refine h.kept hg ?_
  cases hv : v.ownBlock with
  | none => exact .inl rfl
  | some k => exact .inr (fun e => hne k hv e.symm)
/-- A slice's head, and its tail, as they are read. -/
theorem src_head {w : World} {base e sz n c : Nat} {A : Option Addr} {X Y : List Value} (h : w.ownsRow base e sz (.slice A n c) n (X ++ Y)) (k : Nat) (hX : X.length = k * sz) (hk : k ≤ n) : SrcZ sz w (.slice A k c) k X := by
  rcases h.2 with ⟨hv, h0⟩ | ⟨g, cap, cur, hv, _⟩
  · injection hv with e1 _ e3
    subst e1
    have : k = 0 := by omega
    subst this
    exact .inl ⟨c, rfl, rfl, List.eq_nil_of_length_eq_zero (by simpa using hX)⟩
  · injection hv with e1 _ e3
    subst e1 e3
    exact src_part (P := []) (R := Y) h (by simp) k 0 rfl hX _
theorem src_tail {w : World} {base e sz n c m k : Nat} {A : Option Addr} {X Y : List Value} (h : w.ownsRow base e sz (.slice A n c) n (X ++ Y)) (hX : X.length = k * sz) (hY : Y.length = m * sz) (hn : k + m = n) : SrcZ sz w (sliced A k n c sz) m Y := by
  have hm : n - k = m := by omega
  unfold sliced
  rw [hm]
  rcases h.2 with ⟨hv, h0⟩ | ⟨g, cap, cur, hv, _, _, hnc, _⟩
  · injection hv with e1 _ e3
    subst e1
    have : m = 0 := by omega
    subst this
    refine .inl ⟨c - k, ?_, rfl, List.eq_nil_of_length_eq_zero (by simpa using hY)⟩
    split <;> rfl
  · injection hv with e1 _ e3
    subst e1 e3
    split
    · rename_i e
      have h0 : m = 0 := by omega
      subst h0
      have hy : Y = [] := List.eq_nil_of_length_eq_zero (by simpa using hY)
      subst hy
      exact .inr ⟨_, _, rfl, by simp, fun j y hj => by simp at hj⟩
    · show SrcZ sz w (.slice (some ((⟨g, 0, none⟩ : Addr).add (k * sz))) m (c - k)) m Y
      rw [add_spot, Nat.zero_add]
      exact src_part (P := X) (R := []) h (by simp) m (k * sz) hX.symm hY _
theorem SrcZ.kept {sz m : Nat} {w w' : World} {u : Value} {ys : List Value} (h : SrcZ sz w u m ys) (hb : Below w.heap.size w w') : SrcZ sz w' u m ys := by
  rcases h with h | ⟨a, c, h1, h2, h3⟩
  · exact .inl h
  · refine .inr ⟨a, c, h1, h2, fun j y hy => ?_⟩
    have h4 := h3 j y hy
    rw [← h4]
    refine World.cell?_of_block (hb.block _ ?_)
    rcases Nat.lt_or_ge (a.add j).block w.heap.size with h | h
    · exact h
    · exfalso
      unfold World.cell? at h4
      rw [Array.getElem?_eq_none h] at h4
      simp at h4
/-- A row with one put in between: three appends. -/
theorem ins3 {e t : TypeId} {W : World} {base n m k sz c : Nat} {A : Option Addr} {z : Value} {by_ : Nat} {X Y : List Value} (hsz : 0 < sz) (ht : Tryd.prog.underlying t = some (.slice e)) (hinfo : (Tryd.prog.info? e).map (fun i => (i.zero, i.size, i.bytes)) = some (some z, sz, by_)) (hz : z.cells.size = sz) (hby : by_ ≤ 128)
    (h : W.ownsRow base e sz (.slice A n c) n (X ++ Y)) (hX : X.length = k * sz) (hY : Y.length = m * sz) (hn : k + m = n) (h1 : ∀ y ∈ X ++ Y, y.oneCell' = true) (hl : n ≤ 1000000)
    (cs : Array Value) (hcs : cs.size = sz) (hc1 : ∀ y ∈ cs.toList, y.oneCell' = true) :
    ∃ (A1 : Option Addr) (c1 : Nat) (w1 : World) (A2 : Option Addr) (c2 : Nat) (w2 : World) (A3 : Option Addr) (c3 : Nat) (w3 : World),
      (Builtin.append_ #[t, t] t #[.slice none 0 0, .slice A k c]).run Tryd.prog W = .ok (.slice A1 k c1) w1 ∧
      (Builtin.append_ #[t, t] t #[.slice A1 k c1, .slice (some ⟨w1.heap.size, 0, none⟩) 1 1]).run Tryd.prog (w1.alloc (.cells cs e)) = .ok (.slice A2 (k + 1) c2) w2 ∧
      (Builtin.append_ #[t, t] t #[.slice A2 (k + 1) c2, sliced A k n c sz]).run Tryd.prog w2 = .ok (.slice A3 (n + 1) c3) w3 ∧
      Below W.heap.size W w1 ∧ Below W.heap.size W w2 ∧ Below W.heap.size W w3 ∧ w3.ownsRow W.heap.size e sz (.slice A3 (n + 1) c3) (n + 1) (X ++ (cs.toList ++ Y)) := by
  obtain ⟨A1, c1, w1, r1, o1, g1⟩ := catZ hsz ht hinfo hz hby (World.ownsRow_nil W W.heap.size e sz) (src_head h k hX (by omega)) (fun y hy => h1 y (by simp [hy])) (Nat.le_refl _) (by omega)
  rw [Nat.zero_add, List.nil_append] at o1
  rw [Nat.zero_add] at r1
  have b1 : Below W.heap.size W w1 := (Below.refl _ W).grown g1 (Nat.le_refl _) (fun j hj => by cases hj)
  have b1' : Below W.heap.size W (w1.alloc (.cells cs e)) := b1.trans (((Below.refl _ _).alloc (Nat.le_refl _) _).mono b1.size)
  have hsrc : SrcZ sz (w1.alloc (.cells cs e)) (.slice (some ⟨w1.heap.size, 0, none⟩) 1 1) 1 cs.toList := by
    refine .inr ⟨_, _, rfl, by simpa using hcs, fun j y hy => ?_⟩
    rw [add_spot, Nat.zero_add, (Box.new w1 e cs).cell j]
    simpa using hy
  obtain ⟨A2, c2, w2, r2, o2, g2⟩ := catZ hsz ht hinfo hz hby (own_below o1 ((Below.refl _ _).alloc (Nat.le_refl _) (.cells cs e))) hsrc hc1 b1'.size (by omega)
  have b2 : Below W.heap.size W w2 := b1'.grown g2 b1'.size (fun j hj => (o1.lt j hj).1)
  obtain ⟨A3, c3, w3, r3, o3, g3⟩ := catZ hsz ht hinfo hz hby o2 ((src_tail h hX hY hn).kept b2) (fun y hy => h1 y (by simp [hy])) b2.size (by omega)
  have e1 : k + 1 + m = n + 1 := by omega
  rw [e1] at r3 o3
  exact ⟨A1, c1, w1, A2, c2, w2, A3, c3, w3, r1, r2, r3, b1, b2, b2.grown g3 b2.size (fun j hj => (o2.lt j hj).1), by rw [← List.append_assoc]; exact o3⟩
/-- A row with one let go: two appends. -/
theorem del2 {e t : TypeId} {W : World} {base n m k sz c : Nat} {A : Option Addr} {z : Value} {by_ : Nat} {X M Y : List Value} (hsz : 0 < sz) (ht : Tryd.prog.underlying t = some (.slice e)) (hinfo : (Tryd.prog.info? e).map (fun i => (i.zero, i.size, i.bytes)) = some (some z, sz, by_)) (hz : z.cells.size = sz) (hby : by_ ≤ 128)
    (h : W.ownsRow base e sz (.slice A n c) n (X ++ (M ++ Y))) (hX : X.length = k * sz) (hM : M.length = sz) (hY : Y.length = m * sz) (hn : k + 1 + m = n) (h1 : ∀ y ∈ X ++ (M ++ Y), y.oneCell' = true) (hl : n ≤ 1000000) :
    ∃ (A1 : Option Addr) (c1 : Nat) (w1 : World) (A3 : Option Addr) (c3 : Nat) (w3 : World),
      (Builtin.append_ #[t, t] t #[.slice none 0 0, .slice A k c]).run Tryd.prog W = .ok (.slice A1 k c1) w1 ∧
      (Builtin.append_ #[t, t] t #[.slice A1 k c1, sliced A (k + 1) n c sz]).run Tryd.prog w1 = .ok (.slice A3 (k + m) c3) w3 ∧
      Below W.heap.size W w1 ∧ Below W.heap.size W w3 ∧ w3.ownsRow W.heap.size e sz (.slice A3 (k + m) c3) (k + m) (X ++ Y) := by
  obtain ⟨A1, c1, w1, r1, o1, g1⟩ := catZ hsz ht hinfo hz hby (World.ownsRow_nil W W.heap.size e sz) (src_head h k hX (by omega)) (fun y hy => h1 y (by simp [hy])) (Nat.le_refl _) (by omega)
  rw [Nat.zero_add, List.nil_append] at o1
  rw [Nat.zero_add] at r1
  have b1 : Below W.heap.size W w1 := (Below.refl _ W).grown g1 (Nat.le_refl _) (fun j hj => by cases hj)
  rw [← List.append_assoc] at h
  have hXM : (X ++ M).length = (k + 1) * sz := by rw [List.length_append, hX, hM, Nat.add_mul, Nat.one_mul]
  obtain ⟨A3, c3, w3, r3, o3, g3⟩ := catZ hsz ht hinfo hz hby o1 ((src_tail h hXM hY hn).kept b1) (fun y hy => h1 y (by simp [hy])) b1.size (by omega)
  exact ⟨A1, c1, w1, A3, c3, w3, r1, r3, b1, b1.grown g3 b1.size (fun j hj => (o1.lt j hj).1), o3⟩
end Go.Proofs.YtdclkhbolmbnmaaDoor
