/- Rows of structs of the call's own: appended, cut: plain words. No condition but that they are not too many. -/
import Derived.Test.YtlokhhjhckiloaaGreatMem
import Derived.Test.YtlokhhjhckiloaaGreatNum
import Derived.Maps.AppendAt
import Derived.Deep.AppendLies
import Derived.WalkKit
import Derived.Lib.Hide
import Derived.Test.YtlokhhjhckiloaaGreatMbGi
import Derived.Test.YtlokhhjhckiloaaGreatAsChk
import Derived.BigQuiet
import Derived.Deep.RegionLaw
import Derived.RegionTactic
namespace Go.Proofs.YtlokhhjhckiloaaGreat
open Go.RowKit
set_option linter.unusedVariables false
/-- What a slice reads as, cell by cell; nil where it has no place. -/
def SrcZ (sz : Nat) (w : World) (u : Value) (m : Nat) (ys : List Value) : Prop :=
  (∃ c, u = .slice none 0 c ∧ m = 0 ∧ ys = []) ∨ ∃ a c, u = .slice (some a) m c ∧ ys.length = m * sz ∧ ∀ j y, ys[j]? = some y → w.cell? (a.add j) = some y
theorem append_none {e t : TypeId} (ht : Tryz.prog.underlying t = some (.slice e)) (v : Value) (c : Nat) (hv : v = .slice none 0 0 ∨ ∃ a n m, v = .slice (some a) n m ∧ n ≤ m) (w : World) {i0 : TypeInfo} (hi : Tryz.prog.info? e = some i0) :
    (Builtin.append_ #[t, t] t #[v, .slice none 0 c]).run Tryz.prog w = .ok v w := by
  rcases hv with rfl | ⟨a, n, m, rfl, hnm⟩
  · simp [Builtin.append_, run_underlying ht, sizeOf, typeInfo, hi, Builtin.lenOf, Builtin.firstCells]
  · simp [Builtin.append_, run_underlying ht, sizeOf, typeInfo, hi, Builtin.lenOf, Builtin.firstCells, hnm, storeCells]
theorem own_room {w : World} {base t size n : Nat} {v : Value} {xs : List Value} (h : w.ownsRow base t size v n xs) : v = .slice none 0 0 ∨ ∃ a n m, v = .slice (some a) n m ∧ n ≤ m := by
  rcases h.2 with ⟨hv, _⟩ | ⟨g, cap', cur, hv, hg, hh, h4, h5, h6, h7⟩
  · exact .inl hv
  · exact .inr ⟨_, _, _, hv, h4⟩
/-- One row behind another one. -/
theorem catZ {e t : TypeId} {w : World} {base n m sz : Nat} {v u z : Value} {xs ys : List Value} {by_ : Nat} (hsz : 0 < sz) (ht : Tryz.prog.underlying t = some (.slice e)) (hinfo : (Tryz.prog.info? e).map (fun i => (i.zero, i.size, i.bytes)) = some (some z, sz, by_)) (hz : z.cells.size = sz) (hby : by_ ≤ 128)
    (hown : w.ownsRow base e sz v n xs) (hsrc : SrcZ sz w u m ys) (h1 : ∀ y ∈ ys, y.oneCell' = true) (hb : base ≤ w.heap.size) (hn : n + m ≤ 2000000) :
    ∃ (A' : Option Addr) (c' : Nat) (w' : World), (Builtin.append_ #[t, t] t #[v, u]).run Tryz.prog w = .ok (.slice A' (n + m) c') w' ∧ w'.ownsRow base e sz (.slice A' (n + m) c') (n + m) (xs ++ ys) ∧ w.grownBy w' v.ownBlock := by
  obtain ⟨i0, hi, hz0, hz1, hz2⟩ := info_parts hinfo
  rcases hsrc with ⟨c, rfl, rfl, rfl⟩ | ⟨a, c, rfl, hl, hc⟩
  · have hr := append_none ht v c (own_room hown) w hi
    rcases hown.2 with ⟨hv, h0⟩ | ⟨g, cap', cur, hv, _⟩
    · subst hv h0
      exact ⟨none, 0, w, hr, by simpa using hown, ⟨rfl, rfl, rfl, Nat.le_refl _, fun _ _ _ => rfl⟩⟩
    · subst hv
      exact ⟨_, _, w, hr, by simpa using hown, ⟨rfl, rfl, rfl, Nat.le_refl _, fun _ _ _ => rfl⟩⟩
  · obtain ⟨v', w', k1, k2, k3, k4, k5⟩ := run_append_own_at (P := Tryz.prog) (w := w) base t t e i0 z sz by_ ht hi hz0 hz1 hz2 hz hsz v n xs hown a m c ys hl hc h1 (by unfold maxLen; omega) (by have := Nat.mul_le_mul_left (n + m) hby; omega) hb
    rcases k2.2 with ⟨hv, h0⟩ | ⟨g, cap', cur, hv, _⟩
    · subst hv
      rw [show n + m = 0 from h0] at k2 ⊢
      exact ⟨none, 0, w', k1, k2, k3⟩
    · subst hv
      exact ⟨_, _, w', k1, k2, k3⟩
theorem wpList_append_run {P : Program} {w w' : World} {ops : Array Oper} {rest : List Oper} {o : Oper} {a : Act} {Q : Exit → Act → World → Prop} (hgd : o.guard = none) (s x : Operand) (t : TypeId) (ho : o.op = .call { callee := .builtin .append, args := #[s, x], argTypes := #[t, t] })
    (v u v' : Value) (hs : a.eval s = v) (hx : a.eval x = u) (hr : (Builtin.append_ #[t, t] o.type #[v, u]).run P w = .ok v' w') (h : wpList P ops Q rest (a.put o.dst v') w') : wpList P ops Q (o :: rest) a w := by
  refine wpList_plain hgd fun K hK => ?_
  unfold Oper.wp execOp
  simp only [ho, resolve, invoke, builtin, Sem.run_bind, Sem.run_pure, Result.andThen_ok, List.map_toArray, List.map_cons, List.map_nil, hs, hx, hr]
  exact hK _ _ h
theorem add_spot (b off i : Nat) : (⟨b, off, none⟩ : Addr).add i = ⟨b, off + i, none⟩ := by unfold Addr.add; split <;> simp_all
theorem rowZ_cur {w : World} {base e sz n c g : Nat} {xs : List Value} (h : w.ownsRow base e sz (.slice (some ⟨g, 0, none⟩) n c) n xs) : ∃ cur : Array Value, w.heap[g]? = some (.cells cur e (0, 0)) ∧ n ≤ c ∧ base ≤ g ∧ ∀ (i : Nat) (y : Value), xs[i]? = some y → cur[i]? = some y := by
  rcases h.2 with ⟨hv, _⟩ | ⟨g', cap', cur, hv, hg, hh, h4, h5, h6, h7⟩
  · cases hv
  · injection hv with e1 _ e3
    injection e1 with e1
    injection e1 with e1
    subst e1 e3
    refine ⟨cur, hh, h4, hg, fun i y hy => ?_⟩
    rw [← h7] at hy
    rw [List.getElem?_take] at hy
    split at hy
    · simpa using hy
    · cases hy
/-- A part of a row. -/
theorem src_part {w : World} {base e sz n c g : Nat} {xs P Q R : List Value} (h : w.ownsRow base e sz (.slice (some ⟨g, 0, none⟩) n c) n xs) (he : xs = P ++ (Q ++ R)) (m o : Nat) (ho : o = P.length) (hm : Q.length = m * sz) (k : Nat) :
    SrcZ sz w (.slice (some ⟨g, o, none⟩) m k) m Q := by
  obtain ⟨cur, hh, hc, _, hx⟩ := rowZ_cur h
  refine .inr ⟨_, k, rfl, hm, fun j y hy => ?_⟩
  rw [add_spot]
  have hj : xs[o + j]? = some y := by
    rw [he, ho, List.getElem?_append_right (by omega), Nat.add_sub_cancel_left, List.getElem?_append_left (List.getElem?_eq_some_iff.1 hy).1]
    exact hy
  unfold World.cell?
  simp only [hh]
  simpa using hx _ _ hj
/-- A row stays while another block grows. -/
theorem rowZ_kept {w w' : World} {base e sz n : Nat} {v : Value} {xs : List Value} {row : Option Nat} (h : w.ownsRow base e sz v n xs) (hg : w.grownBy w' row) (hne : ∀ k, v.ownBlock = some k → row ≠ some k) : w'.ownsRow base e sz v n xs := by
  refine h.kept hg ?_
  cases hv : v.ownBlock with
  | none => exact .inl rfl
  | some k => exact .inr (fun e => hne k hv e.symm)
/-- A slice's head, and its tail, as they are read. -/
theorem src_head {w : World} {base e sz n c : Nat} {A : Option Addr} {X Y : List Value} (h : w.ownsRow base e sz (.slice A n c) n (X ++ Y)) (k : Nat) (hX : X.length = k * sz) (hk : k ≤ n) : SrcZ sz w (.slice A k c) k X := by
  rcases h.2 with ⟨hv, h0⟩ | ⟨g, cap, cur, hv, _⟩
  · injection hv with e1 _ e3
    subst e1
    have : k = 0 := by omega
    subst this
    exact .inl ⟨c, rfl, rfl, List.eq_nil_of_length_eq_zero (by simpa using hX)⟩
  · injection hv with e1 _ e3
    subst e1 e3
    exact src_part (P := []) (R := Y) h (by simp) k 0 rfl hX _
theorem src_tail {w : World} {base e sz n c m k : Nat} {A : Option Addr} {X Y : List Value} (h : w.ownsRow base e sz (.slice A n c) n (X ++ Y)) (hX : X.length = k * sz) (hY : Y.length = m * sz) (hn : k + m = n) : SrcZ sz w (sliced A k n c sz) m Y := by
  have hm : n - k = m := by omega
  unfold sliced
  rw [hm]
  rcases h.2 with ⟨hv, h0⟩ | ⟨g, cap, cur, hv, _, _, hnc, _⟩
  · injection hv with e1 _ e3
    subst e1
    have : m = 0 := by omega
    subst this
    refine .inl ⟨c - k, ?_, rfl, List.eq_nil_of_length_eq_zero (by simpa using hY)⟩
    split <;> rfl
  · injection hv with e1 _ e3
    subst e1 e3
    split
    · rename_i e
      have h0 : m = 0 := by omega
      subst h0
      have hy : Y = [] := List.eq_nil_of_length_eq_zero (by simpa using hY)
      subst hy
      exact .inr ⟨_, _, rfl, by simp, fun j y hj => by simp at hj⟩
    · show SrcZ sz w (.slice (some ((⟨g, 0, none⟩ : Addr).add (k * sz))) m (c - k)) m Y
      rw [add_spot, Nat.zero_add]
      exact src_part (P := X) (R := []) h (by simp) m (k * sz) hX.symm hY _
theorem SrcZ.kept {sz m : Nat} {w w' : World} {u : Value} {ys : List Value} (h : SrcZ sz w u m ys) (hb : Below w.heap.size w w') : SrcZ sz w' u m ys := by
  rcases h with h | ⟨a, c, h1, h2, h3⟩
  · exact .inl h
  · refine .inr ⟨a, c, h1, h2, fun j y hy => ?_⟩
    have h4 := h3 j y hy
    rw [← h4]
    refine World.cell?_of_block (hb.block _ ?_)
    rcases Nat.lt_or_ge (a.add j).block w.heap.size with h | h
    · exact h
    · exfalso
      unfold World.cell? at h4
      rw [Array.getElem?_eq_none h] at h4
      simp at h4
/-- A row with one put in between: three appends. -/
theorem ins3 {e t : TypeId} {W : World} {base n m k sz c : Nat} {A : Option Addr} {z : Value} {by_ : Nat} {X Y : List Value} (hsz : 0 < sz) (ht : Tryz.prog.underlying t = some (.slice e)) (hinfo : (Tryz.prog.info? e).map (fun i => (i.zero, i.size, i.bytes)) = some (some z, sz, by_)) (hz : z.cells.size = sz) (hby : by_ ≤ 128)
    (h : W.ownsRow base e sz (.slice A n c) n (X ++ Y)) (hX : X.length = k * sz) (hY : Y.length = m * sz) (hn : k + m = n) (h1 : ∀ y ∈ X ++ Y, y.oneCell' = true) (hl : n ≤ 1000000)
    (cs : Array Value) (hcs : cs.size = sz) (hc1 : ∀ y ∈ cs.toList, y.oneCell' = true) :
    ∃ (A1 : Option Addr) (c1 : Nat) (w1 : World) (A2 : Option Addr) (c2 : Nat) (w2 : World) (A3 : Option Addr) (c3 : Nat) (w3 : World),
      (Builtin.append_ #[t, t] t #[.slice none 0 0, .slice A k c]).run Tryz.prog W = .ok (.slice A1 k c1) w1 ∧
      (Builtin.append_ #[t, t] t #[.slice A1 k c1, .slice (some ⟨w1.heap.size, 0, none⟩) 1 1]).run Tryz.prog (w1.alloc (.cells cs e)) = .ok (.slice A2 (k + 1) c2) w2 ∧
      (Builtin.append_ #[t, t] t #[.slice A2 (k + 1) c2, sliced A k n c sz]).run Tryz.prog w2 = .ok (.slice A3 (n + 1) c3) w3 ∧
      Below W.heap.size W w1 ∧ Below W.heap.size W w2 ∧ Below W.heap.size W w3 ∧ w3.ownsRow W.heap.size e sz (.slice A3 (n + 1) c3) (n + 1) (X ++ (cs.toList ++ Y)) := by
  obtain ⟨A1, c1, w1, r1, o1, g1⟩ := catZ hsz ht hinfo hz hby (World.ownsRow_nil W W.heap.size e sz) (src_head h k hX (by omega)) (fun y hy => h1 y (by simp [hy])) (Nat.le_refl _) (by omega)
  rw [Nat.zero_add, List.nil_append] at o1
  rw [Nat.zero_add] at r1
  have b1 : Below W.heap.size W w1 := (Below.refl _ W).grown g1 (Nat.le_refl _) (fun j hj => by cases hj)
  have b1' : Below W.heap.size W (w1.alloc (.cells cs e)) := b1.trans (((Below.refl _ _).alloc (Nat.le_refl _) _).mono b1.size)
  have hsrc : SrcZ sz (w1.alloc (.cells cs e)) (.slice (some ⟨w1.heap.size, 0, none⟩) 1 1) 1 cs.toList := by
    refine .inr ⟨_, _, rfl, by simpa using hcs, fun j y hy => ?_⟩
    rw [add_spot, Nat.zero_add, (Box.new w1 e cs).cell j]
    simpa using hy
  obtain ⟨A2, c2, w2, r2, o2, g2⟩ := catZ hsz ht hinfo hz hby (own_below o1 ((Below.refl _ _).alloc (Nat.le_refl _) (.cells cs e))) hsrc hc1 b1'.size (by omega)
  have b2 : Below W.heap.size W w2 := b1'.grown g2 b1'.size (fun j hj => (o1.lt j hj).1)
  obtain ⟨A3, c3, w3, r3, o3, g3⟩ := catZ hsz ht hinfo hz hby o2 ((src_tail h hX hY hn).kept b2) (fun y hy => h1 y (by simp [hy])) b2.size (by omega)
  have e1 : k + 1 + m = n + 1 := by omega
  rw [e1] at r3 o3
  exact ⟨A1, c1, w1, A2, c2, w2, A3, c3, w3, r1, r2, r3, b1, b2, b2.grown g3 b2.size (fun j hj => (o2.lt j hj).1), by rw [← List.append_assoc]; exact o3⟩
/-- A row with one let go: two appends. -/
theorem del2 {e t : TypeId} {W : World} {base n m k sz c : Nat} {A : Option Addr} {z : Value} {by_ : Nat} {X M Y : List Value} (hsz : 0 < sz) (ht : Tryz.prog.underlying t = some (.slice e)) (hinfo : (Tryz.prog.info? e).map (fun i => (i.zero, i.size, i.bytes)) = some (some z, sz, by_)) (hz : z.cells.size = sz) (hby : by_ ≤ 128)
    (h : W.ownsRow base e sz (.slice A n c) n (X ++ (M ++ Y))) (hX : X.length = k * sz) (hM : M.length = sz) (hY : Y.length = m * sz) (hn : k + 1 + m = n) (h1 : ∀ y ∈ X ++ (M ++ Y), y.oneCell' = true) (hl : n ≤ 1000000) :
    ∃ (A1 : Option Addr) (c1 : Nat) (w1 : World) (A3 : Option Addr) (c3 : Nat) (w3 : World),
      (Builtin.append_ #[t, t] t #[.slice none 0 0, .slice A k c]).run Tryz.prog W = .ok (.slice A1 k c1) w1 ∧
      (Builtin.append_ #[t, t] t #[.slice A1 k c1, sliced A (k + 1) n c sz]).run Tryz.prog w1 = .ok (.slice A3 (k + m) c3) w3 ∧
      Below W.heap.size W w1 ∧ Below W.heap.size W w3 ∧ w3.ownsRow W.heap.size e sz (.slice A3 (k + m) c3) (k + m) (X ++ Y) := by
  obtain ⟨A1, c1, w1, r1, o1, g1⟩ := catZ hsz ht hinfo hz hby (World.ownsRow_nil W W.heap.size e sz) (src_head h k hX (by omega)) (fun y hy => h1 y (by simp [hy])) (Nat.le_refl _) (by omega)
  rw [Nat.zero_add, List.nil_append] at o1
  rw [Nat.zero_add] at r1
  have b1 : Below W.heap.size W w1 := (Below.refl _ W).grown g1 (Nat.le_refl _) (fun j hj => by cases hj)
  rw [← List.append_assoc] at h
  have hXM : (X ++ M).length = (k + 1) * sz := by rw [List.length_append, hX, hM, Nat.add_mul, Nat.one_mul]
  obtain ⟨A3, c3, w3, r3, o3, g3⟩ := catZ hsz ht hinfo hz hby o1 ((src_tail h hXM hY hn).kept b1) (fun y hy => h1 y (by simp [hy])) b1.size (by omega)
  exact ⟨A1, c1, w1, A3, c3, w3, r1, r3, b1, b1.grown g3 b1.size (fun j hj => (o1.lt j hj).1), o3⟩
end Go.Proofs.YtlokhhjhckiloaaGreat
/- the document's group in memory: plain laws. No condition. -/
namespace Go.Proofs.YtlokhhjhckiloaaGreat
open Go.RowKit
set_option linter.unusedVariables false
theorem kg7 {w : World} {b : Nat} {t : TypeId} {v0 v1 v2 v3 v4 v5 v6 : Value} (h : Box w b t #[v0, v1, v2, v3, v4, v5, v6]) : w.cell? ⟨b, 0, none⟩ = some v0 ∧ w.cell? ⟨b, 1, none⟩ = some v1 ∧ w.cell? ⟨b, 2, none⟩ = some v2 ∧ w.cell? ⟨b, 3, none⟩ = some v3 ∧ w.cell? ⟨b, 4, none⟩ = some v4 ∧ w.cell? ⟨b, 5, none⟩ = some v5 ∧ w.cell? ⟨b, 6, none⟩ = some v6 ∧ b < w.heap.size ∧
    w.frozen? ⟨b, 2, none⟩ = false ∧ w.frozen? ⟨b, 3, none⟩ = false ∧ w.frozen? ⟨b, 4, none⟩ = false ∧ w.frozen? ⟨b, 5, none⟩ = false ∧ w.frozen? ⟨b, 6, none⟩ = false :=
  ⟨(h.cell 0).trans rfl, (h.cell 1).trans rfl, (h.cell 2).trans rfl, (h.cell 3).trans rfl, (h.cell 4).trans rfl, (h.cell 5).trans rfl, (h.cell 6).trans rfl, h.lt, h.frozen 2, h.frozen 3, h.frozen 4, h.frozen 5, h.frozen 6⟩
theorem koneInfo : (Tryz.prog.info? 113).map (fun i => (i.zero, i.size, i.bytes)) = some (some (.agg #[.int .i64 0, .slice none 0 0, .int .i64 0, .bool false, .slice none 0 0]), 5, 72) := by kernel_rfl
/-- A group in memory. -/
structure KIs (w : World) (B p : Nat) (v : Value) (R : List MV) (G : GD) : Prop where
  box : Box w p 81 #[.int .i64 G.ss, .int .i64 G.rb, .int .i64 G.ph, .int .i64 G.gn, .int .i64 G.nx, .int .i64 G.un, v]
  base : B ≤ p
  row : w.ownsRow B 113 5 v R.length (mvR R)
  all : ∀ x ∈ R, MvOk w B x
  abs : R.map MV.d = G.L
section
variable {w w' : World} {B p : Nat} {v : Value} {R : List MV} {G : GD}
theorem KIs.len (h : KIs w B p v R G) : R.length = G.L.length := by rw [← h.abs, List.length_map]
theorem KIs.off {S : Nat → Prop} (h : KIs w B p v R G) (ho : Off S w w') (hs : ∀ k, S k → k < B ∨ w.heap.size ≤ k) : KIs w' B p v R G := by
  have q : ∀ {t size n : Nat} {u : Value} {xs : List Value}, w.ownsRow B t size u n xs → w'.ownsRow B t size u n xs := fun hr => own_off hr ho (fun k hk hS => by have := own_blk hr hk; rcases hs k hS with h | h <;> omega)
  exact ⟨h.box.off ho (fun hS => by have := h.box.lt; have := h.base; rcases hs p hS with h | h <;> omega), h.base, q h.row, fun x hx => ⟨q (h.all x hx).tr, q (h.all x hx).pr⟩, h.abs⟩
theorem KIs.later (h : KIs w B p v R G) (hb : Below w.heap.size w w') : KIs w' B p v R G := h.off (Off.of_below (fun _ => False) hb) (fun _ x => x.elim)
/-- The group's own block has turned, no more. -/
theorem KIs.put {G' : GD} (h : KIs w B p v R G) (ho : Off (· = p) w w') (hb : Box w' p 81 #[.int .i64 G'.ss, .int .i64 G'.rb, .int .i64 G'.ph, .int .i64 G'.gn, .int .i64 G'.nx, .int .i64 G'.un, v]) (hL : G'.L = G.L) : KIs w' B p v R G' := by
  have q : ∀ {t size n : Nat} {u : Value} {xs : List Value}, w.ownsRow B t size u n xs → t ≠ 81 → w'.ownsRow B t size u n xs := fun hr hne => own_off hr ho (fun k hk hS => own_ne hr h.box (fun e => hne e.symm) k hk hS)
  exact ⟨hb, h.base, q h.row (by decide), fun x hx => ⟨q (h.all x hx).tr (by decide), q (h.all x hx).pr (by decide)⟩, by rw [hL]; exact h.abs⟩
theorem KIs.abs' {G' : GD} {w : World} {L : List MD} (h : KIs w B p v R G) (hL : R.map MV.d = L) (hG : G' = { G with L := L } := by rfl) : KIs w B p v R G' := by
  subst hG
  exact ⟨h.box, h.base, h.row, h.all, hL⟩
/-- One member's cells. -/
theorem KIs.at_ (h : KIs w B p v R G) {k : Nat} {x : MV} (hk : R[k]? = some x) : ∃ g c, v = .slice (some ⟨g, 0, none⟩) R.length c ∧ g < w.heap.size ∧ B ≤ g ∧ g ≠ p ∧ w.cell? ⟨g, k * 5, none⟩ = some (.int .i64 x.d.n) ∧ w.cell? ⟨g, k * 5 + 1, none⟩ = some x.tv ∧ w.cell? ⟨g, k * 5 + 2, none⟩ = some (.int .i64 x.d.u) ∧
    w.cell? ⟨g, k * 5 + 3, none⟩ = some (.bool x.d.j) ∧ w.cell? ⟨g, k * 5 + 4, none⟩ = some x.pv ∧ (∀ i, w.frozen? ⟨g, i, none⟩ = false) := by
  have hkl := (List.getElem?_eq_some_iff.1 hk).1
  obtain ⟨A, c, e⟩ := own_slice h.row
  have hr := h.row
  rw [e] at hr
  obtain ⟨g, rfl, hlt, hbg, _, hc⟩ := own_in hr (by omega)
  obtain ⟨m0, m1, m2, m3, m4⟩ := mvR_at hk
  refine ⟨g, c, e, hlt, hbg, fun e' => own_ne hr h.box (by decide) g rfl e', hc _ _ m0, hc _ _ m1, hc _ _ m2, hc _ _ m3, hc _ _ m4, fun i => hr.frozenAt i⟩
end
/-- A call on a group: what it gives, what the group is then. -/
def KWr (B p : Nat) (v : Value) (W : World) (G' : GD) (res : Value) (e : Ending) (w' : World) : Prop :=
  e = .returned res ∧ ∃ v' R', KIs w' B p v' R' G' ∧ Off (GrS p v) W w' ∧ ∀ k, v'.ownBlock = some k → v.ownBlock = some k ∨ W.heap.size ≤ k
theorem KWr.mk {B p : Nat} {v v' : Value} {W w' : World} {R' : List MV} {G' : GD} {res : Value} (h : KIs w' B p v' R' G') (ho : Off (GrS p v) W w') (hv : ∀ k, v'.ownBlock = some k → v.ownBlock = some k ∨ W.heap.size ≤ k) : KWr B p v W G' res (.returned res) w' := ⟨rfl, v', R', h, ho, hv⟩
/-- The members' row has turned, no more: each row of texts and of partitions is one that was there, or is told. -/
theorem KIs.rows2 {w w' : World} {B p : Nat} {v v' : Value} {R R' : List MV} {G G' : GD} {S : Nat → Prop} (h : KIs w B p v R G) (ho : Off S w w') (hS : ∀ k, S k → GrS p v k ∨ w.heap.size ≤ k)
    (hb : Box w' p 81 #[.int .i64 G'.ss, .int .i64 G'.rb, .int .i64 G'.ph, .int .i64 G'.gn, .int .i64 G'.nx, .int .i64 G'.un, v']) (hr : w'.ownsRow B 113 5 v' R'.length (mvR R'))
    (ha : ∀ x ∈ R', ((∃ y ∈ R, y.tv = x.tv ∧ y.d.T = x.d.T) ∨ w'.ownsRow B 9 1 x.tv x.d.T.length (strC x.d.T)) ∧ ((∃ y ∈ R, y.pv = x.pv ∧ y.d.P = x.d.P) ∨ w'.ownsRow B 34 2 x.pv x.d.P.length (prtC x.d.P))) (hL : R'.map MV.d = G'.L) : KIs w' B p v' R' G' := by
  have q : ∀ {t size n : Nat} {u : Value} {xs : List Value}, w.ownsRow B t size u n xs → t ≠ 81 → t ≠ 113 → w'.ownsRow B t size u n xs := fun hr hne hn2 => own_off hr ho (fun k hk hk2 => by
    have hlt := (own_blk hr hk).2
    rcases hS k hk2 with (rfl | e) | e
    · exact own_ne hr h.box (fun e => hne e.symm) k hk rfl
    · exact own_two hr h.row hn2 k hk e
    · omega)
  refine ⟨hb, h.base, hr, fun x hx => ⟨?_, ?_⟩, hL⟩
  · rcases (ha x hx).1 with ⟨y, hy, e1, e2⟩ | e
    · rw [← e1, ← e2]; exact q (h.all y hy).tr (by decide) (by decide)
    · exact e
  · rcases (ha x hx).2 with ⟨y, hy, e1, e2⟩ | e
    · rw [← e1, ← e2]; exact q (h.all y hy).pr (by decide) (by decide)
    · exact e
/-- Beginning under way. -/
structure KgBg (W : World) (B p : Nat) (v : Value) (R : List MV) (G : GD) (k : Nat) (wr : World) : Prop where
  le : k ≤ R.length
  is : KIs wr B p v (bgR R k) { G with L := (bgR R k).map MV.d }
  off : Off (GrS p v) W wr
theorem KgBg.start {W : World} {B p : Nat} {v : Value} {R : List MV} {G : GD} (h : KIs W B p v R G) : KgBg W B p v R G 0 W := ⟨Nat.zero_le _, by rw [bgR_zero]; exact h.abs' rfl, Off.refl _ _⟩
theorem KgBg.step {W wr : World} {B p g c : Nat} {R : List MV} {G : GD} {k : Nat} {x : MV} (h : KgBg W B p (.slice (some ⟨g, 0, none⟩) R.length c) R G k wr) (hx : R[k]? = some x) :
    KgBg W B p (.slice (some ⟨g, 0, none⟩) R.length c) R G (k + 1) ((wr.setCell ⟨g, k * 5 + 3, none⟩ (.bool false)).setCell ⟨g, k * 5 + 4, none⟩ (.slice none 0 0)) := by
  have hl := (List.getElem?_eq_some_iff.1 hx).1
  have hM := bgR_at hx
  have hr := h.is.row
  rw [bgR_len] at hr
  have hgp : g ≠ p := fun e => own_ne hr h.is.box (by decide) g rfl e
  have h3 := (hr.stored (k * 5 + 3) (.bool false)).1
  rw [mvR_set (bgR R k) k x (by rw [bgR_len]; exact hl) ⟨{ x.d with j := false }, x.tv, x.pv⟩ hM 3 (.bool false) (by decide) rfl] at h3
  have hM2 : ((bgR R k).set k ⟨{ x.d with j := false }, x.tv, x.pv⟩)[k]? = some ⟨{ x.d with j := false }, x.tv, x.pv⟩ := by rw [List.getElem?_set_self (by rw [bgR_len]; exact hl)]
  have h4 := (h3.stored (k * 5 + 4) (.slice none 0 0)).1
  rw [mvR_set _ k _ (by rw [List.length_set, bgR_len]; exact hl) (clrV x) hM2 4 (.slice none 0 0) (by decide) rfl, List.set_set, bgR_step hx] at h4
  have o := (Off.one wr ⟨g, k * 5 + 3, none⟩ (.bool false)).set (p := ⟨g, k * 5 + 4, none⟩) (.inl (show g = g from rfl)) (.slice none 0 0)
  have hb : Box ((wr.setCell ⟨g, k * 5 + 3, none⟩ (.bool false)).setCell ⟨g, k * 5 + 4, none⟩ (.slice none 0 0)) p _ _ := h.is.box.off o (fun e => hgp (show p = g from e).symm)
  have h4' : ((wr.setCell ⟨g, k * 5 + 3, none⟩ (.bool false)).setCell ⟨g, k * 5 + 4, none⟩ (.slice none 0 0)).ownsRow B 113 5 (.slice (some ⟨g, 0, none⟩) R.length c) (bgR R (k + 1)).length (mvR (bgR R (k + 1))) := by rw [bgR_len]; exact h4
  refine ⟨by omega, h.is.rows2 (S := fun i => i = g) (G' := { G with L := (bgR R (k + 1)).map MV.d }) o (fun i e => .inl (.inr (by rw [e]; rfl))) hb h4' (fun y hy => ?_) rfl, h.off.trans o (fun i _ e => .inr (by rw [e]; rfl))⟩
  rw [← bgR_step hx] at hy
  rcases List.mem_or_eq_of_mem_set hy with hy | rfl
  · exact ⟨.inl ⟨y, hy, rfl, rfl⟩, .inl ⟨y, hy, rfl, rfl⟩⟩
  · exact ⟨.inl ⟨x, List.mem_of_getElem? hM, rfl, rfl⟩, .inr (World.ownsRow_nil _ _ _ _)⟩
theorem KIs.field {w : World} {B p g c n : Nat} {R : List MV} {G : GD} {k : Nat} {x y : MV} (h : KIs w B p (.slice (some ⟨g, 0, none⟩) n c) R G) (hn : R.length = n) (hx : R[k]? = some x) (i : Nat) (u : Value) (hi : i < 5) (he : (mvC x).set i u = mvC y)
    (ht : (y.tv = x.tv ∧ y.d.T = x.d.T) ∨ w.ownsRow B 9 1 y.tv y.d.T.length (strC y.d.T)) (hp : (y.pv = x.pv ∧ y.d.P = x.d.P) ∨ w.ownsRow B 34 2 y.pv y.d.P.length (prtC y.d.P)) :
    KIs (w.setCell ⟨g, k * 5 + i, none⟩ u) B p (.slice (some ⟨g, 0, none⟩) n c) (R.set k y) { G with L := G.L.set k y.d } ∧ Off (GrS p (.slice (some ⟨g, 0, none⟩) n c)) w (w.setCell ⟨g, k * 5 + i, none⟩ u) := by
  subst hn
  have hl := (List.getElem?_eq_some_iff.1 hx).1
  have hr := h.row
  have hgp : g ≠ p := fun e => own_ne hr h.box (by decide) g rfl e
  have h3 := (hr.stored (k * 5 + i) u).1
  rw [mvR_set R k x hl y hx i u hi he] at h3
  have o := Off.one w ⟨g, k * 5 + i, none⟩ u
  have hb : Box (w.setCell ⟨g, k * 5 + i, none⟩ u) p _ _ := h.box.off o (fun e => hgp (show p = g from e).symm)
  have q : ∀ {t size n : Nat} {u' : Value} {xs : List Value}, w.ownsRow B t size u' n xs → t ≠ 113 → (w.setCell ⟨g, k * 5 + i, none⟩ u).ownsRow B t size u' n xs := fun hq hne => own_off hq o (fun j hj e => own_two hq hr hne j hj (by rw [show j = g from e]; rfl))
  have ho : Off (GrS p (.slice (some ⟨g, 0, none⟩) R.length c)) w (w.setCell ⟨g, k * 5 + i, none⟩ u) := o.mono (fun j _ e => .inr (by rw [show j = g from e]; rfl))
  refine ⟨h.rows2 (S := GrS p (.slice (some ⟨g, 0, none⟩) R.length c)) (G' := { G with L := G.L.set k y.d }) ho (fun j e => .inl e) hb (by rw [List.length_set]; exact h3) (fun z hz => ?_) ?_, ho⟩
  · rcases List.mem_or_eq_of_mem_set hz with hz | rfl
    · exact ⟨.inl ⟨z, hz, rfl, rfl⟩, .inl ⟨z, hz, rfl, rfl⟩⟩
    · refine ⟨?_, ?_⟩
      · rcases ht with ⟨e1, e2⟩ | ht
        · exact .inl ⟨x, List.mem_of_getElem? hx, e1.symm, e2.symm⟩
        · exact .inr (q ht (by decide))
      · rcases hp with ⟨e1, e2⟩ | hp
        · exact .inl ⟨x, List.mem_of_getElem? hx, e1.symm, e2.symm⟩
        · exact .inr (q hp (by decide))
  · rw [List.map_set, h.abs]
theorem KIs.hear {w : World} {B p g c : Nat} {R : List MV} {G : GD} {k : Nat} (h : KIs w B p (.slice (some ⟨g, 0, none⟩) R.length c) R G) (hk : k < R.length) (now : Int) :
    ∃ R', R'.length = R.length ∧ KIs (w.setCell ⟨g, k * 5 + 2, none⟩ (.int .i64 (now + G.ss))) B p (.slice (some ⟨g, 0, none⟩) R.length c) R' (hearD k now G) ∧ Off (GrS p (.slice (some ⟨g, 0, none⟩) R.length c)) w (w.setCell ⟨g, k * 5 + 2, none⟩ (.int .i64 (now + G.ss))) := by
  obtain ⟨x, hx⟩ : ∃ x, R[k]? = some x := ⟨_, List.getElem?_eq_getElem hk⟩
  obtain ⟨h1, h2⟩ := h.field rfl hx (y := ⟨{ x.d with u := now + G.ss }, x.tv, x.pv⟩) 2 (.int .i64 (now + G.ss)) (by decide) rfl (.inl ⟨rfl, rfl⟩) (.inl ⟨rfl, rfl⟩)
  have hL : G.L[k]? = some x.d := by rw [← h.abs, List.getElem?_map, hx]; rfl
  have e : hearD k now G = { G with L := G.L.set k { x.d with u := now + G.ss } } := by unfold hearD; rw [hL]
  rw [e]
  exact ⟨_, by rw [List.length_set], h1, h2⟩
theorem KIs.abs2 {w : World} {B p : Nat} {v : Value} {R : List MV} {G G' : GD} (h : KIs w B p v R G) (hG : G' = { G with L := R.map MV.d }) : KIs w B p v R G' := by
  subst hG
  exact ⟨h.box, h.base, h.row, h.all, rfl⟩
end Go.Proofs.YtlokhhjhckiloaaGreat
/- the document's group: time, find, empty, all, anew, by contracts. No condition but that numbers are small. -/
namespace Go.Proofs.YtlokhhjhckiloaaGreat
open Go.RowKit
set_option linter.unusedVariables false
theorem ktime_c (now : Int) (W : World) : Calls Tryz.prog 90 #[.int .i64 now] W (fun e w' => e = .returned (.bool (timeB now)) ∧ w' = W) := by
  unfold timeB witB
  by_cases h : 0 ≤ now
  · rw [decide_eq_true h]
    go_enter Tryz.func90, Tryz.ntmps90
    go_wp2
    go_ret
    exact ⟨by simp, rfl⟩
  · rw [decide_eq_false h]
    go_enter Tryz.func90, Tryz.ntmps90
    go_wp2
    go_ret
    exact ⟨rfl, rfl⟩
def posI (m : Int) (L : List MD) : Int := idxM (fun x => decide (x.n = m)) L
set_option maxHeartbeats 4000000 in
set_option maxRecDepth 100000 in
theorem kfind_c (B p : Nat) (v : Value) (R : List MV) (G : GD) (m : Int) (W : World) (h : KIs W B p v R G) (hl : G.L.length ≤ 100000) :
    Calls Tryz.prog 92 #[.pointer (some ⟨p, 0, none⟩), .int .i64 m] W (Good W (.int .i64 (posI m G.L))) := by
  have hlen := h.len
  obtain ⟨A, c, hv⟩ := own_slice h.row
  subst hv
  have HI := Lib.hid h
  have hlR : R.length ≤ 100000 := by omega
  have HL := Lib.hid hlen
  unfold posI
  clear h hl hlen
  go_enter Tryz.func92, Tryz.ntmps92
  go_wp2
  go_loopw [5] (fun j wr => ∃ k : Nat, j = .int .i64 k ∧ IxAt W (fun x => decide (x.n = m)) G.L k wr) (fun j _ => R.length - (intOf j).toNat)
  case atStart => exact ⟨0, rfl, Nat.zero_le _, fun j y hj => absurd hj (Nat.not_lt_zero _), Below.refl _ _⟩
  case round =>
    obtain ⟨k, rfl, hA⟩ := hrel
    have hle := hA.le
    have hI := HI.out.later hA.bel
    obtain ⟨b0, b1, b2, b3, b4, b5, b6, bl, _⟩ := kg7 hI.box
    by_cases hk : k < R.length
    · obtain ⟨x, hx⟩ : ∃ x, R[k]? = some x := ⟨_, List.getElem?_eq_getElem hk⟩
      obtain ⟨g, c', e, hgl, _, _, q0, _⟩ := hI.at_ hx
      injection e with e _ ec
      subst e
      have hLx : G.L[k]? = some x.d := by rw [← HI.out.abs, List.getElem?_map, hx]; rfl
      have HA := Lib.hid hA
      have HX := Lib.hid hLx
      have hki : (k : Int) < (R.length : Int) := by omega
      clear hA hx hLx hle ec hI
      by_cases hm : x.d.n = m
      · have hq : (x.d.n == m) = true := by rw [hm]; simp
        have HM := Lib.hid hm
        clear hm
        go_wp2_with fail
        go_ret
        exact ⟨by rw [findIdx_at HX.out (decide_eq_true HM.out) HA.out.no]; rfl, HA.out.bel⟩
      · have hq : (x.d.n == m) = false := beq_eq_false_iff_ne.2 hm
        have HM := Lib.hid hm
        clear hm
        go_wp2_with fail
        go_roundw
        case rel =>
          refine ⟨k + 1, by go_num, by have := HL.out; omega, fun j y hj hy => ?_, HA.out.bel⟩
          by_cases e : j = k
          · subst e
            have hX := HX.out
            rw [hy] at hX
            injection hX with hX
            rw [hX]; exact decide_eq_false HM.out
          · exact HA.out.no j y (by omega) hy
        case measure => simp [intOf]; omega
    · have HA := Lib.hid hA
      have hki : ¬ (k : Int) < (R.length : Int) := by omega
      clear hA hI
      go_wp2_with fail
      go_ret
      refine ⟨?_, HA.out.bel⟩
      rw [findIdx_not (fun y hy => by
        obtain ⟨j, hj, e⟩ := List.mem_iff_getElem.1 hy
        exact HA.out.no j y (by have := HL.out; omega) (by rw [List.getElem?_eq_getElem hj, e]))]
      rfl
set_option maxHeartbeats 4000000 in
set_option maxRecDepth 100000 in
theorem kall_c (B p : Nat) (v : Value) (R : List MV) (G : GD) (W : World) (h : KIs W B p v R G) (hl : G.L.length ≤ 100000) :
    Calls Tryz.prog 94 #[.pointer (some ⟨p, 0, none⟩)] W (Good W (.bool (!G.L.any (fun x => !x.j)))) := by
  have hlen := h.len
  obtain ⟨A, c, hv⟩ := own_slice h.row
  subst hv
  have HI := Lib.hid h
  have hlR : R.length ≤ 100000 := by omega
  have HL := Lib.hid hlen
  rw [← any_idx]
  clear h hl hlen
  go_enter Tryz.func94, Tryz.ntmps94
  go_wp2
  go_loopw [3] (fun j wr => ∃ k : Nat, j = .int .i64 k ∧ IxAt W (fun x => !x.j) G.L k wr) (fun j _ => R.length - (intOf j).toNat)
  case atStart => exact ⟨0, rfl, Nat.zero_le _, fun j y hj => absurd hj (Nat.not_lt_zero _), Below.refl _ _⟩
  case round =>
    obtain ⟨k, rfl, hA⟩ := hrel
    have hle := hA.le
    have hI := HI.out.later hA.bel
    obtain ⟨b0, b1, b2, b3, b4, b5, b6, bl, _⟩ := kg7 hI.box
    by_cases hk : k < R.length
    · obtain ⟨x, hx⟩ : ∃ x, R[k]? = some x := ⟨_, List.getElem?_eq_getElem hk⟩
      obtain ⟨g, c', e, hgl, _, _, _, _, _, q3, _⟩ := hI.at_ hx
      injection e with e _ ec
      subst e
      have hLx : G.L[k]? = some x.d := by rw [← HI.out.abs, List.getElem?_map, hx]; rfl
      have HA := Lib.hid hA
      have HX := Lib.hid hLx
      have hki : (k : Int) < (R.length : Int) := by omega
      clear hA hx hLx hle ec hI
      cases hm : x.d.j with
      | false =>
        rw [hm] at q3
        have HM := Lib.hid hm
        clear hm
        go_wp2_with fail
        go_ret
        exact ⟨by rw [findIdx_at HX.out (by rw [HM.out]; rfl) HA.out.no, decide_eq_true (show (0 : Int) ≤ (k : Int) by omega)]; rfl, HA.out.bel⟩
      | true =>
        rw [hm] at q3
        have HM := Lib.hid hm
        clear hm
        go_wp2_with fail
        go_roundw
        case rel =>
          refine ⟨k + 1, by go_num, by have := HL.out; omega, fun j y hj hy => ?_, HA.out.bel⟩
          by_cases e : j = k
          · subst e
            have hX := HX.out
            rw [hy] at hX
            injection hX with hX
            rw [hX, HM.out]; rfl
          · exact HA.out.no j y (by omega) hy
        case measure => simp [intOf]; omega
    · have HA := Lib.hid hA
      have hki : ¬ (k : Int) < (R.length : Int) := by omega
      clear hA hI
      go_wp2_with fail
      go_ret
      refine ⟨?_, HA.out.bel⟩
      rw [findIdx_not (fun y hy => by
        obtain ⟨j, hj, e⟩ := List.mem_iff_getElem.1 hy
        exact HA.out.no j y (by have := HL.out; omega) (by rw [List.getElem?_eq_getElem hj, e]))]
      rfl
/-- Nobody is left. -/
def emptyD (G : GD) : GD := if G.L = [] then { G with ph := 0, un := 0 } else G
set_option maxHeartbeats 2000000 in
set_option maxRecDepth 100000 in
theorem kempty_c (B p : Nat) (v : Value) (R : List MV) (G : GD) (W : World) (h : KIs W B p v R G) :
    Calls Tryz.prog 115 #[.pointer (some ⟨p, 0, none⟩)] W (KWr B p v W (emptyD G) (.bool G.L.isEmpty)) := by
  obtain ⟨b0, b1, b2, b3, b4, b5, b6, bl, f2, f3, f4, f5, f6⟩ := kg7 h.box
  have hlen := h.len
  obtain ⟨A, c, hv⟩ := own_slice h.row
  subst hv
  have HI := Lib.hid h
  unfold emptyD
  by_cases hL : G.L = []
  · have hR : R.length = 0 := by rw [hlen, hL]; rfl
    rw [hR] at b6
    rw [if_pos hL, show G.L.isEmpty = true by rw [hL]; rfl]
    have o2 := (Off.one W ⟨p, 2, none⟩ (.int .i64 0)).set (p := ⟨p, 5, none⟩) (.inl (show p = p from rfl)) (.int .i64 0)
    have h2 := h.put (G' := { G with ph := 0, un := 0 }) o2 ((h.box.set 2 (.int .i64 0)).set 5 (.int .i64 0)) rfl
    have H2 := Lib.hid h2
    have O2 := Lib.hid o2
    clear h hlen hL hR h2 o2
    go_enter Tryz.func115, Tryz.ntmps115
    go_wp2
    go_ret
    exact KWr.mk H2.out (O2.out.mono (fun _ _ e => .inl e)) (fun k hk => .inl hk)
  · have hR : (0 : Int) < (R.length : Int) := by rw [hlen]; have := List.length_pos_iff.2 hL; omega
    rw [if_neg hL, show G.L.isEmpty = false by cases hG : G.L with | nil => exact absurd hG hL | cons a l => rfl]
    clear h hlen hL
    go_enter Tryz.func115, Tryz.ntmps115
    go_wp2
    go_ret
    exact KWr.mk HI.out (Off.refl _ _) (fun k hk => .inl hk)
theorem KWr.keep {B p : Nat} {v : Value} {W w' : World} {G' : GD} {res : Value} {e : Ending} (h : KWr B p v W G' res e w') : e = .returned res ∧ ∃ v' R', KIs w' B p v' R' G' ∧ Off (GrS p v) W w' ∧ ∀ k, v'.ownBlock = some k → v.ownBlock = some k ∨ W.heap.size ≤ k := h
set_option maxHeartbeats 4000000 in
set_option maxRecDepth 100000 in
theorem kanew_c (B p : Nat) (v : Value) (R : List MV) (G : GD) (now : Int) (W : World) (h : KIs W B p v R G) (hG : GBd G) (hn : 0 ≤ now ∧ now ≤ 1099511627776) :
    Calls Tryz.prog 93 #[.pointer (some ⟨p, 0, none⟩), .int .i64 now] W (KWr B p v W (beginD now G) (.tuple #[])) := by
  have ce := kempty_c B p v R G W h
  by_cases hL : G.L = []
  · rw [show G.L.isEmpty = true by rw [hL]; rfl] at ce
    have hD : beginD now G = emptyD G := by
      unfold beginD enterD emptyD
      rw [if_pos (by show G.L.map _ = []; rw [hL]; rfl), if_pos hL]
      obtain ⟨a1, a2, a3, a4, a5, a6, a7⟩ := G
      simp only at hL
      subst hL
      rfl
    rw [hD]
    clear h hG hL hD
    go_enter Tryz.func93, Tryz.ntmps93
    go_wp2_with fail
    with_reducible refine ce.mono ?_
    rintro e w1 ⟨rfl, hh⟩
    go_wp2_with fail
    go_end0
    exact ⟨rfl, hh⟩
  · rw [show G.L.isEmpty = false by cases hG : G.L with | nil => exact absurd hG hL | cons a l => rfl] at ce
    have hE : emptyD G = G := by unfold emptyD; rw [if_neg hL]
    rw [hE] at ce
    have hD : Hid (beginD now G = { G with ph := 1, un := now + G.rb, L := G.L.map fun x => { x with j := false, P := [] } }) := Lib.hid (by
      unfold beginD enterD
      rw [if_neg (by show ¬ G.L.map _ = []; simp [hL])])
    have hrb := hG.rb
    have hlG := hG.len
    clear h hG hL hE
    go_enter Tryz.func93, Tryz.ntmps93
    go_wp2_with fail
    with_reducible refine ce.mono ?_
    rintro e w1 ⟨rfl, v1, R1, h1, o1, hv1⟩
    obtain ⟨b0, b1, b2, b3, b4, b5, b6, bl, f2, f3, f4, f5, f6⟩ := kg7 h1.box
    have o2 := (Off.one w1 ⟨p, 2, none⟩ (.int .i64 1)).set (p := ⟨p, 5, none⟩) (.inl (show p = p from rfl)) (.int .i64 (now + G.rb))
    have h2 := h1.put (G' := { G with ph := 1, un := now + G.rb }) o2 ((h1.box.set 2 (.int .i64 1)).set 5 (.int .i64 (now + G.rb))) rfl
    have hlR : R1.length ≤ 100000 := by have := h1.len; omega
    obtain ⟨A, c, hv⟩ := own_slice h1.row
    subst hv
    have HST := Lib.hid (KgBg.start h2)
    have H1 := Lib.hid h1
    have O1 := Lib.hid (o1.trans o2 (fun _ _ e => .inl e))
    have V1 := Lib.hid hv1
    clear h1 o1 hv1 o2 h2 ce
    go_wp2_with fail
    go_loopw [4] (fun i wr => ∃ k : Nat, i = .int .i64 k ∧ KgBg ((w1.setCell ⟨p, 2, none⟩ (.int .i64 1)).setCell ⟨p, 5, none⟩ (.int .i64 (now + G.rb))) B p (.slice A R1.length c) R1 { G with ph := 1, un := now + G.rb } k wr) (fun i _ => R1.length - (intOf i).toNat)
    case atStart => exact ⟨0, rfl, HST.out⟩
    case round =>
      clear b0 b1 b2 b3 b4 b5 b6 bl f2 f3 f4 f5 f6 HST
      obtain ⟨k, rfl, hA⟩ := hrel
      have hle := hA.le
      obtain ⟨b0, b1, b2, b3, b4, b5, b6, bl, f2, f3, f4, f5, f6⟩ := kg7 hA.is.box
      by_cases hk : k < R1.length
      · obtain ⟨x, hx⟩ : ∃ x, R1[k]? = some x := ⟨_, List.getElem?_eq_getElem hk⟩
        obtain ⟨g, c', e, hgl, _, hgp, _, _, _, q3, q4, hf⟩ := hA.is.at_ (bgR_at hx)
        injection e with e en ec
        subst e
        have hf3 := hf (k * 5 + 3)
        have hf4 := hf (k * 5 + 4)
        have HA := Lib.hid (hA.step hx)
        clear hA hx hf hle ec en
        generalize hi5 : k * 5 = i5 at *
        go_wp2
        go_roundw
        case rel => exact ⟨k + 1, by go_num, HA.out⟩
        case measure => simp [intOf]; omega
      · have hk2 : k = R1.length := by omega
        subst hk2
        have hO := hA.off
        have hI := hA.is
        rw [bgR_all] at hI
        have HO := Lib.hid hO
        have HI := Lib.hid hI
        clear hA hO hI hk
        go_wp2_with fail
        go_end0
        rw [hD.out]
        refine ⟨rfl, _, _, HI.out.abs' ((bg_abs H1.out.abs)), O1.out.trans HO.out (fun i hi e => ?_), V1.out⟩
        rcases e with e | e
        · exact .inl e
        · rcases V1.out i e with e | e
          · exact .inr e
          · omega
end Go.Proofs.YtlokhhjhckiloaaGreat
/- the document's group: close, went, drop, by contracts. No condition but that numbers are small. -/
namespace Go.Proofs.YtlokhhjhckiloaaGreat
open Go.RowKit
set_option linter.unusedVariables false
/-- Who has joined, of the first k. -/
def joinedR (R : List MV) (k : Nat) : List MV := (R.take k).filter fun x => x.d.j
theorem joinedR_yes {R : List MV} {k : Nat} {x : MV} (hx : R[k]? = some x) (h : x.d.j = true) : joinedR R (k + 1) = joinedR R k ++ [x] := by
  unfold joinedR
  rw [List.take_add_one, hx, Option.toList_some, List.filter_append]
  simp [h]
theorem joinedR_no {R : List MV} {k : Nat} {x : MV} (hx : R[k]? = some x) (h : x.d.j = false) : joinedR R (k + 1) = joinedR R k := by
  unfold joinedR
  rw [List.take_add_one, hx, Option.toList_some, List.filter_append]
  simp [h]
theorem joinedR_len (R : List MV) (k : Nat) : (joinedR R k).length ≤ R.length := by
  unfold joinedR
  refine Nat.le_trans (List.length_filter_le _ _) ?_
  rw [List.length_take]; omega
theorem joinedR_all (R : List MV) : joinedR R R.length = R.filter fun x => x.d.j := by unfold joinedR; rw [List.take_length]
theorem joined_abs {R : List MV} {L : List MD} (h : R.map MV.d = L) : (R.filter fun x => x.d.j).map MV.d = L.filter fun x => !!x.j := by
  rw [← h, List.filter_map]
  congr 1
  exact List.filter_congr (fun x _ => by simp)
/-- A new row of members in the place of the elder one. -/
theorem KIs.fresh {w w' : World} {B p : Nat} {v v' : Value} {R R' : List MV} {G : GD} {L' : List MD} {b0 : Nat} (h : KIs w B p v R G) (hb : Below w.heap.size w w') (hr : w'.ownsRow b0 113 5 v' R'.length (mvR R')) (hb0 : B ≤ b0) (hin : ∀ x ∈ R', x ∈ R) (hL : R'.map MV.d = L') :
    KIs (w'.setCell ⟨p, 6, none⟩ v') B p v' R' { G with L := L' } ∧ Off (GrS p v) w (w'.setCell ⟨p, 6, none⟩ v') := by
  have o := Off.one w' ⟨p, 6, none⟩ v'
  have h1 := h.later hb
  have oT : Off (GrS p v) w (w'.setCell ⟨p, 6, none⟩ v') := (Off.of_below (GrS p v) hb).trans o (fun _ _ e => .inl e)
  refine ⟨h1.rows2 (S := GrS p v) (G' := { G with L := L' }) (o.mono (fun _ _ e => .inl e)) (fun i e => .inl e) (h1.box.set 6 v') ?_ (fun x hx => ⟨.inl ⟨x, hin x hx, rfl, rfl⟩, .inl ⟨x, hin x hx, rfl, rfl⟩⟩) hL, oT⟩
  exact own_off (own_base2 hr hb0) o (fun j hj e => own_ne hr h1.box (by decide) j hj e)
set_option maxHeartbeats 8000000 in
set_option maxRecDepth 100000 in
theorem kclose_c (B p : Nat) (v : Value) (R : List MV) (G : GD) (now : Int) (W : World) (h : KIs W B p v R G) (hG : GBd G) (hBW : B ≤ W.heap.size) (hn : 0 ≤ now ∧ now ≤ 1099511627776) (hgn : 0 ≤ G.gn ∧ G.gn ≤ 1000000) :
    Calls Tryz.prog 95 #[.pointer (some ⟨p, 0, none⟩), .int .i64 now] W (KWr B p v W (closeD now G) (.tuple #[])) := by
  obtain ⟨i0, hi, hz0, hz1, hz2⟩ := info_parts koneInfo
  have hlen := h.len
  obtain ⟨A, c, hv⟩ := own_slice h.row
  subst hv
  have HI := Lib.hid h
  have HG := Lib.hid hG
  have hlR : R.length ≤ 100000 := by have := hG.len; omega
  have HR0 := Lib.hid (RowS.start W 113 5)
  clear h hlen hG
  go_enter Tryz.func95, Tryz.ntmps95
  go_wp2_with fail
  go_loopw [4, 5] (fun a j wr => ∃ (k : Nat) (B1 : Option Addr) (e : Nat), j = .int .i64 k ∧ k ≤ R.length ∧ a = .slice B1 (joinedR R k).length e ∧ RowS W 113 5 (.slice B1 (joinedR R k).length e) (joinedR R k).length (mvR (joinedR R k)) wr) (fun _ j _ => R.length - (intOf j).toNat)
  case atStart => exact ⟨0, none, 0, rfl, Nat.zero_le _, rfl, HR0.out⟩
  case round =>
    obtain ⟨k, B1, e0, rfl, hkl, rfl, hP⟩ := hrel
    have HP := Lib.hid hP
    clear hP HR0
    have hI := HI.out.later HP.out.bel
    obtain ⟨b0, b1, b2, b3, b4, b5, b6, bl, f2, f3, f4, f5, f6⟩ := kg7 hI.box
    by_cases hk : k < R.length
    · obtain ⟨x, hx⟩ : ∃ x, R[k]? = some x := ⟨_, List.getElem?_eq_getElem hk⟩
      obtain ⟨g, c', e, hgl, _, hgp, q0, q1, q2, q3, q4, _⟩ := hI.at_ hx
      injection e with e en ec
      subst e
      clear en ec
      have hok := hI.all x (List.mem_of_getElem? hx)
      obtain ⟨tA, tc, et⟩ := own_slice hok.tr
      obtain ⟨pA, pc, ep⟩ := own_slice hok.pr
      have hki : (k : Int) < (R.length : Int) := by omega
      have hjl := joinedR_len R k
      cases hj : x.d.j with
      | false =>
        have HY := Lib.hid (joinedR_no hx hj)
        rw [hj] at q3
        clear hok hx hj hI et ep
        generalize hi5 : k * 5 = i5 at *
        go_wp2_with fail
        go_roundw
        case rel => exact ⟨k + 1, B1, e0, by go_num, hk, by rw [HY.out], by rw [HY.out]; exact HP.out⟩
        case measure => simp [intOf]; omega
      | true =>
        have HY := Lib.hid (joinedR_yes hx hj)
        rw [hj] at q3
        obtain ⟨⟨n, Tx, u, jj, P⟩, tv, pv⟩ := x
        dsimp only at *
        subst et; subst ep; subst hj
        have HP3 := Lib.hid (HP.out.later ((Below.refl wr.heap.size wr).alloc (Nat.le_refl _) (.cells #[.int .i64 n, .slice tA Tx.length tc, .int .i64 u, .bool true, .slice pA P.length pc] 113)))
        have hrow := HP3.out.row
        have hnews := news_at (Box.new wr 113 #[.int .i64 n, .slice tA Tx.length tc, .int .i64 u, .bool true, .slice pA P.length pc])
        have hsz2 := HP3.out.bel.size
        generalize hM : joinedR R k = M at *
        clear hok hx hI hM
        generalize hi5 : k * 5 = i5 at *
        go_wp2_with (at_builtin; refine wpList_append_own_at _ rfl _ _ 79 rfl W.heap.size 113 i0 (.agg #[.int .i64 0, .slice none 0 0, .int .i64 0, .bool false, .slice none 0 0]) 5 72 Tryz.underlying79 hi hz0 hz1 hz2 rfl (by decide) (.slice B1 M.length e0) M.length (mvR M) rfl hrow ⟨wr.heap.size, 0, none⟩ 1 1 [.int .i64 n, .slice tA Tx.length tc, .int .i64 u, .bool true, .slice pA P.length pc] rfl rfl hnews (by simp [Value.oneCell']) (by unfold maxLen; omega) (by omega) hsz2 ?_)
        intro v' w5 hown' hgrow _ _
        obtain ⟨g', cap', rfl⟩ := own_slice hown'
        have HP7 := Lib.hid (HP3.out.grow hown' hgrow)
        clear hown' hgrow hrow hnews q0 q1 q2 q3 q4
        go_wp2
        go_roundw
        case rel =>
          refine ⟨k + 1, g', cap', by go_num, hk, by rw [HY.out, List.length_append]; rfl, ?_⟩
          rw [HY.out, List.length_append, mvR_app]; exact HP7.out
        case measure => simp [intOf]; omega
    · have hkk : k = R.length := by omega
      subst hkk
      have hki : ¬ (R.length : Int) < (R.length : Int) := by omega
      obtain ⟨F, hF⟩ : ∃ F, joinedR R R.length = F := ⟨_, rfl⟩
      have habs : F.map MV.d = (dropD (fun x => !x.j) G).L := by rw [← hF, joinedR_all, joined_abs HI.out.abs]; rfl
      have hin : ∀ x ∈ F, x ∈ R := fun x hx => by rw [← hF, joinedR_all] at hx; exact (List.mem_filter.1 hx).1
      rw [hF] at HP ⊢
      obtain ⟨h2, o2⟩ := HI.out.fresh HP.out.bel HP.out.row hBW hin habs
      have H2 : Hid (KIs (wr.setCell ⟨p, 6, none⟩ (.slice B1 F.length e0)) B p (.slice B1 F.length e0) F (dropD (fun x => !x.j) G)) := Lib.hid h2
      have O2 := Lib.hid o2
      have VF : Hid (∀ j, (Value.slice B1 F.length e0).ownBlock = some j → (Value.slice A R.length c).ownBlock = some j ∨ W.heap.size ≤ j) := Lib.hid (fun j hj => .inr (HP.out.row.lt _ hj).1)
      have ce := kempty_c B p _ F _ _ H2.out
      clear h2 o2 hI habs hin hF
      have HC : Hid (closeD now G = enterD 2 now (moreD (dropD (fun x => !x.j) G))) := Lib.hid rfl
      have hGd := HG.out.drop (fun x => !x.j)
      have hgn' : 0 ≤ (dropD (fun x => !x.j) G).gn ∧ (dropD (fun x => !x.j) G).gn ≤ 1000000 := hgn
      generalize dropD (fun x => !x.j) G = G1 at *
      have hrb := hGd.rb
      by_cases hL : G1.L = []
      · rw [show G1.L.isEmpty = true by rw [hL]; rfl] at ce
        have HD : Hid (enterD 2 now (moreD G1) = emptyD G1) := Lib.hid (by
          unfold enterD emptyD moreD
          rw [if_pos hL, if_pos hL, if_pos hL])
        clear hL hgn
        go_wp2_with fail
        with_reducible refine ce.mono ?_
        rintro e w3 ⟨rfl, v3, R3, h3, o3, hv3⟩
        go_wp2_with fail
        go_end0
        rw [HC.out, HD.out]
        exact ⟨rfl, v3, R3, h3, O2.out.two o3 VF.out, own_two2 O2.out.size VF.out hv3⟩
      · rw [show G1.L.isEmpty = false by cases hG : G1.L with | nil => exact absurd hG hL | cons a l => rfl] at ce
        have hE : emptyD G1 = G1 := by unfold emptyD; rw [if_neg hL]
        rw [hE] at ce
        have HD : Hid (enterD 2 now (moreD G1) = { G1 with ph := 2, gn := G1.gn + 1, un := now + G1.rb }) := Lib.hid (by
          unfold enterD moreD
          rw [if_neg hL, if_neg hL])
        clear hL hgn hE
        go_wp2_with fail
        with_reducible refine ce.mono ?_
        rintro e w3 ⟨rfl, v3, R3, h3, o3, hv3⟩
        obtain ⟨y0, y1, y2, y3, y4, y5, y6, yl, g2, g3, g4, g5, g6⟩ := kg7 h3.box
        have o5 := ((Off.one w3 ⟨p, 3, none⟩ (.int .i64 (G1.gn + 1))).set (p := ⟨p, 2, none⟩) (.inl (show p = p from rfl)) (.int .i64 2)).set (p := ⟨p, 5, none⟩) (.inl (show p = p from rfl)) (.int .i64 (now + G1.rb))
        have h5 := h3.put (G' := { G1 with ph := 2, gn := G1.gn + 1, un := now + G1.rb }) o5 (((h3.box.set 3 (.int .i64 (G1.gn + 1))).set 2 (.int .i64 2)).set 5 (.int .i64 (now + G1.rb))) rfl
        have H5 := Lib.hid h5
        have O5 := Lib.hid ((O2.out.two o3 VF.out).trans o5 (fun _ _ e => .inl e))
        have V5 := Lib.hid (own_two2 O2.out.size VF.out hv3)
        clear h3 o3 hv3 o5 h5 ce b0 b1 b2 b3 b4 b5 b6 bl f2 f3 f4 f5 f6
        go_wp2_with fail
        go_end0
        rw [HC.out, HD.out]
        exact ⟨rfl, v3, R3, H5.out, O5.out, V5.out⟩
/-- Some are gone. -/
def wentD (now : Int) (G : GD) : GD := if G.L = [] then emptyD G else if G.ph = 1 then wholeD now G else beginD now G
set_option maxHeartbeats 4000000 in
set_option maxRecDepth 100000 in
theorem kwent_c (B p : Nat) (v : Value) (R : List MV) (G : GD) (now : Int) (W : World) (h : KIs W B p v R G) (hG : GBd G) (hBW : B ≤ W.heap.size) (hn : 0 ≤ now ∧ now ≤ 1099511627776) (hgn : 0 ≤ G.gn ∧ G.gn ≤ 1000000) :
    Calls Tryz.prog 99 #[.pointer (some ⟨p, 0, none⟩), .int .i64 now] W (KWr B p v W (wentD now G) (.tuple #[])) := by
  have ce := kempty_c B p v R G W h
  unfold wentD
  by_cases hL : G.L = []
  · rw [show G.L.isEmpty = true by rw [hL]; rfl] at ce
    rw [if_pos hL]
    clear h hG hL
    go_enter Tryz.func99, Tryz.ntmps99
    go_wp2_with fail
    with_reducible refine ce.mono ?_
    rintro e w1 ⟨rfl, hh⟩
    go_wp2_with fail
    go_end0
    exact ⟨rfl, hh⟩
  · rw [show G.L.isEmpty = false by cases hG : G.L with | nil => exact absurd hG hL | cons a l => rfl] at ce
    have hE : emptyD G = G := by unfold emptyD; rw [if_neg hL]
    rw [hE] at ce
    rw [if_neg hL]
    have ca := fun v R w (hh : KIs w B p v R G) => kanew_c B p v R G now w hh hG hn
    have cl := fun v R w (hh : KIs w B p v R G) => kall_c B p v R G w hh hG.len
    have cc := fun v R w (hh : KIs w B p v R G) (hb : B ≤ w.heap.size) => kclose_c B p v R G now w hh hG hb hn hgn
    clear h hG hL hE
    by_cases hp : G.ph = 1
    · rw [if_pos hp]
      have hp' : (G.ph == 1) = true := by rw [hp]; rfl
      unfold wholeD
      cases hA : G.L.any (fun x => !x.j) with
      | true =>
        rw [hA] at cl
        rw [if_pos rfl]
        clear hp hA
        go_enter Tryz.func99, Tryz.ntmps99
        go_wp2_with fail
        with_reducible refine ce.mono ?_
        rintro e w1 ⟨rfl, v1, R1, h1, o1, hv1⟩
        obtain ⟨b0, b1, b2, b3, b4, b5, b6, bl, _⟩ := kg7 h1.box
        have cl1 := cl _ _ _ h1
        have H1 := Lib.hid h1
        clear cl cc ca h1
        go_wp2_with fail
        with_reducible refine cl1.mono ?_
        rintro e w2 ⟨rfl, hb2⟩
        go_wp2_with fail
        go_end0
        exact ⟨rfl, v1, R1, H1.out.later hb2, o1.later hb2, hv1⟩
      | false =>
        rw [hA] at cl
        rw [if_neg (by decide)]
        clear hp hA
        go_enter Tryz.func99, Tryz.ntmps99
        go_wp2_with fail
        with_reducible refine ce.mono ?_
        rintro e w1 ⟨rfl, v1, R1, h1, o1, hv1⟩
        obtain ⟨b0, b1, b2, b3, b4, b5, b6, bl, _⟩ := kg7 h1.box
        have cl1 := cl _ _ _ h1
        have H1 := Lib.hid h1
        have O1 := Lib.hid o1
        have V1 := Lib.hid hv1
        clear cl ca h1 o1 hv1
        go_wp2_with fail
        with_reducible refine cl1.mono ?_
        rintro e w2 ⟨rfl, hb2⟩
        have h2 := H1.out.later hb2
        have O2 := Lib.hid (O1.out.later hb2)
        have cc2 := cc _ _ _ h2 (Nat.le_trans hBW O2.out.size)
        clear hb2 h2 cc
        go_wp2_with fail
        with_reducible refine cc2.mono ?_
        rintro e w3 ⟨rfl, v3, R3, h3, o3, hv3⟩
        go_wp2_with fail
        go_end0
        exact ⟨rfl, v3, R3, h3, O2.out.two o3 V1.out, own_two2 O2.out.size V1.out hv3⟩
    · rw [if_neg hp]
      have hp' : (G.ph == 1) = false := beq_eq_false_iff_ne.2 hp
      clear hp
      go_enter Tryz.func99, Tryz.ntmps99
      go_wp2_with fail
      with_reducible refine ce.mono ?_
      rintro e w1 ⟨rfl, v1, R1, h1, o1, hv1⟩
      obtain ⟨b0, b1, b2, b3, b4, b5, b6, bl, _⟩ := kg7 h1.box
      have ca1 := ca _ _ _ h1
      have O1 := Lib.hid o1
      have V1 := Lib.hid hv1
      clear cl ca cc h1 o1 hv1
      go_wp2_with fail
      with_reducible refine ca1.mono ?_
      rintro e w3 ⟨rfl, v3, R3, h3, o3, hv3⟩
      go_wp2_with fail
      go_end0
      exact ⟨rfl, v3, R3, h3, O1.out.two o3 V1.out, own_two2 O1.out.size V1.out hv3⟩
theorem mvR_one2 {w : World} {B : Nat} (R : List MV) (h : ∀ x ∈ R, MvOk w B x) : ∀ u ∈ mvR R, u.oneCell' = true := mvR_one R (fun x hx => by
  obtain ⟨A1, c1, e1⟩ := own_slice (h x hx).tr
  obtain ⟨A2, c2, e2⟩ := own_slice (h x hx).pr
  rw [e1, e2]
  exact ⟨rfl, rfl⟩)
theorem split_at {α : Type} {R : List α} {i : Nat} (hi : i < R.length) : R = R.take i ++ (R[i] :: R.drop (i + 1)) := by
  rw [← List.drop_eq_getElem_cons hi, List.take_append_drop]
def eraseD (i : Nat) (G : GD) : GD := { G with L := G.L.take i ++ G.L.drop (i + 1) }
set_option maxHeartbeats 4000000 in
set_option maxRecDepth 100000 in
theorem kdrop_c (B p : Nat) (v : Value) (R : List MV) (G : GD) (i : Nat) (W : World) (h : KIs W B p v R G) (hG : GBd G) (hBW : B ≤ W.heap.size) (hi : i < G.L.length) :
    Calls Tryz.prog 98 #[.pointer (some ⟨p, 0, none⟩), .int .i64 i] W (KWr B p v W (eraseD i G) (.tuple #[])) := by
  obtain ⟨b0, b1, b2, b3, b4, b5, b6, bl, f2, f3, f4, f5, f6⟩ := kg7 h.box
  have hlen := h.len
  obtain ⟨A, c, hv⟩ := own_slice h.row
  subst hv
  have hiR : i < R.length := by omega
  have hlR : R.length ≤ 100000 := by have := hG.len; omega
  have hsp := split_at hiR
  obtain ⟨g, c', e, hgl, _⟩ := h.at_ (List.getElem?_eq_getElem hiR)
  have hrow := h.row
  have hrow' : W.ownsRow B 113 5 (.slice A R.length c) R.length (mvR (R.take i) ++ (mvC R[i] ++ mvR (R.drop (i + 1)))) := by
    have e2 : mvR R = mvR (R.take i) ++ (mvC R[i] ++ mvR (R.drop (i + 1))) := by
      conv => lhs; rw [hsp, mvR_app]
      rfl
    rw [← e2]; exact hrow
  have hone : ∀ u ∈ mvR (R.take i) ++ (mvC R[i] ++ mvR (R.drop (i + 1))), u.oneCell' = true := by
    have e2 : mvR R = mvR (R.take i) ++ (mvC R[i] ++ mvR (R.drop (i + 1))) := by
      conv => lhs; rw [hsp, mvR_app]
      rfl
    rw [← e2]; exact mvR_one2 R h.all
  obtain ⟨A1, c1, w1, A3, c3, w3, r1, r3, q1, q3, o3⟩ := del2 (m := R.length - (i + 1)) (k := i) (by decide) Tryz.underlying79 koneInfo rfl (by decide) hrow' (by rw [mvR_len, List.length_take]; congr 1; omega) rfl (by rw [mvR_len, List.length_drop]) (by omega) hone (by omega)
  have hrl : i + (R.length - (i + 1)) = (R.take i ++ R.drop (i + 1)).length := by rw [List.length_append, List.length_take, List.length_drop]; omega
  rw [← mvR_app] at o3
  have h1 := h.later q1
  have h3 := h.later q3
  obtain ⟨y0, y1, y2, y3, y4, y5, y6, yl, _⟩ := kg7 h1.box
  obtain ⟨z0, z1, z2, z3, z4, z5, z6, zl, k2, k3, k4, k5, k6⟩ := kg7 h3.box
  have hF := h.fresh (R' := R.take i ++ R.drop (i + 1)) (L' := G.L.take i ++ G.L.drop (i + 1)) q3 (by rw [hrl] at o3; exact o3) hBW (fun x hx => by
    rcases List.mem_append.1 hx with hx | hx
    · exact List.mem_of_mem_take hx
    · exact List.mem_of_mem_drop hx) (by rw [List.map_append, List.map_take, List.map_drop, h.abs])
  rw [← hrl] at hF
  have HF := Lib.hid hF
  have VF : Hid (∀ j, (Value.slice A3 (i + (R.length - (i + 1))) c3).ownBlock = some j → (Value.slice A R.length c).ownBlock = some j ∨ W.heap.size ≤ j) := Lib.hid (fun j hj => .inr (o3.lt _ hj).1)
  injection e with e en ec
  subst e
  have hcap : R.length ≤ c := by
    obtain ⟨g0, e0, _, _, h5, _⟩ := own_in hrow (by omega)
    exact h5
  have hii : (i : Int) < (R.length : Int) := by omega
  have hi1 : (i : Int) + 1 = ((i + 1 : Nat) : Int) := by omega
  clear h hG hi hlen hrow hrow' hone hsp h1 h3 q1 q3 o3 hF hrl en ec
  have hi0 : (0 : Int) ≤ (i : Int) := by omega
  have hi2 : (0 : Int) ≤ (i : Int) + 1 := by omega
  have hic : (i : Int) ≤ (c : Int) := by omega
  have hnat : ((i : Int) + 1).toNat = i + 1 := by omega
  clear hi1
  unfold sliced at r3
  by_cases hck : c = i + 1
  · rw [if_pos hck, show R.length - (i + 1) = 0 by omega, show c - (i + 1) = 0 by omega] at r3
    have HZ : Hid (R.length - (i + 1) = 0) := Lib.hid (by omega)
    rw [HZ.out] at HF VF
    subst hck
    go_enter Tryz.func98, Tryz.ntmps98
    go_wp2_with (at_builtin; first | refine wpList_append_run rfl (.tmp 5) (.tmp 11) 79 rfl _ _ _ rfl rfl r1 ?_ | refine wpList_append_run rfl (.tmp 14) (.tmp 21) 79 rfl _ _ _ rfl rfl r3 ?_)
    go_end0
    exact ⟨rfl, _, _, HF.out.1, HF.out.2, VF.out⟩
  · rw [if_neg hck] at r3
    simp only [Option.map_some, add_spot, Nat.zero_add] at r3
    go_enter Tryz.func98, Tryz.ntmps98
    go_wp2_with (at_builtin; first | refine wpList_append_run rfl (.tmp 5) (.tmp 11) 79 rfl _ _ _ rfl rfl r1 ?_ | refine wpList_append_run rfl (.tmp 14) (.tmp 21) 79 rfl _ _ _ rfl rfl r3 ?_)
    go_end0
    exact ⟨rfl, _, _, HF.out.1, HF.out.2, VF.out⟩
end Go.Proofs.YtlokhhjhckiloaaGreat
/- the document's group: rises, Knows, by contracts. No condition but that numbers are small. -/
namespace Go.Proofs.YtlokhhjhckiloaaGreat
open Go.RowKit
set_option linter.unusedVariables false
set_option maxHeartbeats 4000000 in
set_option maxRecDepth 100000 in
theorem krises_c (L : List ByteArray) (A : Option Addr) (c : Nat) (W : World) (hH : StrIn W A L) (hl : L.length ≤ 140737488351232) :
    Calls Tryz.prog 91 #[.slice A L.length c] W (fun e w' => e = .returned (.bool (risesB bL L)) ∧ ∃ n, w' = W.drewN n) := by
  have HH := Lib.hid hH
  clear hH
  go_enter Tryz.func91, Tryz.ntmps91
  go_wp2
  go_loopw [3] (fun j wr => ∃ k q : Nat, j = .int .i64 ((k : Int) + 1) ∧ (k = 0 ∨ k < L.length) ∧ RisTo bL L k ∧ wr = W.drewN q) (fun j _ => L.length + 1 - (intOf j).toNat)
  case atStart => exact ⟨0, 0, rfl, .inl rfl, fun i a b hi => absurd hi (Nat.not_lt_zero _), rfl⟩
  case round =>
    obtain ⟨k, q, rfl, hle, hR, rfl⟩ := hrel
    by_cases hk : k + 1 < L.length
    · have hL := HH.out
      have e0 : L[k]? = some L[k] := List.getElem?_eq_getElem (by omega)
      have e1 : L[k + 1]? = some L[k + 1] := List.getElem?_eq_getElem hk
      obtain ⟨b, off, rfl, hlt, hc⟩ := hL (by omega)
      have c0 := hc k _ e0
      have c1 := hc (k + 1) _ e1
      have HS := Lib.hid (hR.succ e0 e1)
      have HN := Lib.hid (rises_not (lt := bL) e0 e1)
      have hki : ((k : Int) + 1) < (L.length : Int) := by omega
      have hk0 : (0 : Int) ≤ (k : Int) := by omega
      have hk1 : (k : Int) < (L.length : Int) := by omega
      have hw : IntKind.i64.wrap ((k : Int) + 1 - 1) = (k : Int) := by rw [IntKind.wrap_i64]; omega
      have hw2 : IntKind.i64.wrap (k : Int) = (k : Int) := by rw [IntKind.wrap_i64]; omega
      have hk2 : (0 : Int) ≤ (k : Int) + 1 := by omega
      have hk3 : ((k : Int) + 1).toNat = k + 1 := by omega
      clear hR hc hL
      generalize L[k] = x0 at *
      generalize L[k + 1] = x1 at *
      go_wp2_with fail
      go_quiet (fail)
      all_goals
        cases hd : Op.bytesLess x0.toList x1.toList with
        | true =>
          have HD := Lib.hid (HS.out hd)
          clear hd
          go_wp2_with fail
          go_roundw
          case rel => exact ⟨k + 1, _, by go_num, .inr (by omega), HD.out, by first | exact World.drewN_drewN _ _ _ | rfl⟩
          case measure => simp [intOf]; omega
        | false =>
          have HD := Lib.hid (HN.out hd)
          clear hd
          go_wp2_with fail
          go_ret
          exact ⟨by rw [HD.out]; rfl, _, by first | exact World.drewN_drewN _ _ _ | rfl⟩
    · have HA : Hid (risesB bL L = true) := Lib.hid (hR.all (by omega))
      have hki : ¬ ((k : Int) + 1) < (L.length : Int) := by omega
      clear hR
      go_wp2_with fail
      go_ret
      exact ⟨by rw [HA.out]; rfl, q, rfl⟩

theorem posI_some {m : Int} {L : List MD} {k : Nat} (h : posM m L = some k) : posI m L = (k : Int) := by unfold posI; rw [idxM_pos, h]
theorem posI_none {m : Int} {L : List MD} (h : posM m L = none) : posI m L = -1 := by unfold posI; rw [idxM_pos, h]
set_option maxHeartbeats 1000000 in
set_option maxRecDepth 100000 in
theorem kknows_c (B p : Nat) (v : Value) (R : List MV) (G : GD) (m gen : Int) (W : World) (h : KIs W B p v R G) (hl : G.L.length ≤ 100000) :
    Calls Tryz.prog 59 #[.pointer (some ⟨p, 0, none⟩), .int .i64 m, .int .i64 gen] W (Good W (.int .i64 (knowE m gen G))) := by
  have cf := kfind_c B p v R G m W h hl
  have HI := Lib.hid h
  unfold knowE nameE
  cases hp : posM m G.L with
  | none =>
    rw [posI_none hp] at cf
    clear h hp
    dsimp only
    rw [if_neg (by decide)]
    go_enter Tryz.func59, Tryz.ntmps59
    go_wp2_with fail
    with_reducible refine cf.mono ?_
    rintro e w1 ⟨rfl, hb1⟩
    go_wp2_with fail
    go_ret
    exact ⟨rfl, hb1⟩
  | some k =>
    rw [posI_some hp] at cf
    clear h hp
    dsimp only
    have hk0 : ¬ (k : Int) < 0 := by omega
    by_cases hg : gen = G.gn
    · subst hg
      rw [if_pos rfl, if_pos rfl]
      by_cases hph : G.ph = 1
      · rw [if_pos hph]
        have hp' : (G.ph == 1) = true := by rw [hph]; rfl
        clear hph
        go_enter Tryz.func59, Tryz.ntmps59
        go_wp2_with fail
        with_reducible refine cf.mono ?_
        rintro e w1 ⟨rfl, hb1⟩
        obtain ⟨y0, y1, y2, y3, y4, y5, y6, yl, _⟩ := kg7 (HI.out.later hb1).box
        go_wp2_with fail
        go_ret
        exact ⟨rfl, hb1⟩
      · rw [if_neg hph]
        have hp' : (G.ph == 1) = false := beq_eq_false_iff_ne.2 hph
        clear hph
        go_enter Tryz.func59, Tryz.ntmps59
        go_wp2_with fail
        with_reducible refine cf.mono ?_
        rintro e w1 ⟨rfl, hb1⟩
        obtain ⟨y0, y1, y2, y3, y4, y5, y6, yl, _⟩ := kg7 (HI.out.later hb1).box
        go_wp2_with fail
        go_ret
        exact ⟨rfl, hb1⟩
    · rw [if_neg hg, if_neg (by decide)]
      have hg' : (gen == G.gn) = false := beq_eq_false_iff_ne.2 hg
      clear hg
      go_enter Tryz.func59, Tryz.ntmps59
      go_wp2_with fail
      with_reducible refine cf.mono ?_
      rintro e w1 ⟨rfl, hb1⟩
      obtain ⟨y0, y1, y2, y3, y4, y5, y6, yl, _⟩ := kg7 (HI.out.later hb1).box
      go_wp2_with fail
      go_ret
      exact ⟨rfl, hb1⟩
/-- The cells that a member's time wants. -/
theorem KIs.hr {w : World} {B p g c : Nat} {R : List MV} {G : GD} {k : Nat} (h : KIs w B p (.slice (some ⟨g, 0, none⟩) R.length c) R G) (hk : k < R.length) : ∃ u, w.cell? ⟨p, 0, none⟩ = some (.int .i64 G.ss) ∧ w.cell? ⟨p, 6, none⟩ = some (.slice (some ⟨g, 0, none⟩) R.length c) ∧ w.cell? ⟨g, k * 5 + 2, none⟩ = some (.int .i64 u) ∧ w.frozen? ⟨g, k * 5 + 2, none⟩ = false ∧ p < w.heap.size ∧ g < w.heap.size := by
  obtain ⟨x, hx⟩ : ∃ x, R[k]? = some x := ⟨_, List.getElem?_eq_getElem hk⟩
  obtain ⟨g', c', e, hgl, _, _, _, _, q2, _, _, hf⟩ := h.at_ hx
  have hgg : g = g' := by simpa [Value.ownBlock] using congrArg Value.ownBlock e
  subst hgg
  exact ⟨x.d.u, (h.box.cell 0).trans rfl, (h.box.cell 6).trans rfl, q2, hf _, h.box.lt, hgl⟩
end Go.Proofs.YtlokhhjhckiloaaGreat
/- the document's group: Beat, Leave, by contracts. No condition but that numbers are small. -/
namespace Go.Proofs.YtlokhhjhckiloaaGreat
open Go.RowKit
set_option linter.unusedVariables false
theorem KHr.later {p g o : Nat} {ss u : Int} {v : Value} {w w' : World} (h : w.cell? ⟨p, 0, none⟩ = some (.int .i64 ss) ∧ w.cell? ⟨p, 6, none⟩ = some v ∧ w.cell? ⟨g, o, none⟩ = some (.int .i64 u) ∧ w.frozen? ⟨g, o, none⟩ = false ∧ p < w.heap.size ∧ g < w.heap.size) (hb : Below w.heap.size w w') : w'.cell? ⟨p, 0, none⟩ = some (.int .i64 ss) ∧ w'.cell? ⟨p, 6, none⟩ = some v ∧ w'.cell? ⟨g, o, none⟩ = some (.int .i64 u) ∧ w'.frozen? ⟨g, o, none⟩ = false ∧ p < w'.heap.size ∧ g < w'.heap.size :=
  ⟨(hb.cell (p := ⟨p, 0, none⟩) h.2.2.2.2.1).trans h.1, (hb.cell (p := ⟨p, 6, none⟩) h.2.2.2.2.1).trans h.2.1, (hb.cell (p := ⟨g, o, none⟩) h.2.2.2.2.2).trans h.2.2.1, (World.frozen?_of_block (a := ⟨g, o, none⟩) (hb.block g h.2.2.2.2.2)).trans h.2.2.2.1, Nat.lt_of_lt_of_le h.2.2.2.2.1 hb.size, Nat.lt_of_lt_of_le h.2.2.2.2.2 hb.size⟩
def kbeatE (m gen now : Int) (G : GD) : Int := if timeB now = true then (if nameE m gen G = 0 then (if G.ph = 1 ∨ G.ph = 2 then 13 else 0) else nameE m gen G) else 1
set_option maxHeartbeats 8000000 in
set_option maxRecDepth 100000 in
theorem kbeat_c (B p : Nat) (v : Value) (R : List MV) (G : GD) (m gen now : Int) (W : World) (h : KIs W B p v R G) (hG : GBd G) :
    Calls Tryz.prog 57 #[.pointer (some ⟨p, 0, none⟩), .int .i64 m, .int .i64 gen, .int .i64 now] W (KWr B p v W (beatD m gen now G) (.int .i64 (kbeatE m gen now G))) := by
  have ct := fun w => ktime_c now w
  have cn := kknows_c B p v R G m gen W h hG.len
  have HI := Lib.hid h
  unfold kbeatE beatD
  cases ht : timeB now with
  | false =>
    rw [ht] at ct
    rw [if_neg (fun e => absurd e.1 (by decide)), if_neg (by decide)]
    clear h hG ht cn
    go_enter Tryz.func57, Tryz.ntmps57
    go_wp2_with fail
    with_reducible refine (ct _).mono ?_
    rintro e w1 ⟨rfl, hw9⟩
    have hw8 := hw9.symm
    subst hw8
    clear hw9
    go_wp2_with fail
    go_ret
    exact KWr.mk HI.out (Off.refl _ _) (fun k hk => .inl hk)
  | true =>
    rw [ht] at ct
    rw [if_pos rfl]
    by_cases hE : nameE m gen G = 0
    · obtain ⟨k, hk⟩ := name_pos hE
      rw [if_pos ⟨rfl, hE⟩, if_pos hE, hk]
      have hkE : knowE m gen G = 13 ∨ knowE m gen G = 0 := by
        unfold knowE
        rw [if_pos hE]
        split
        · exact .inl rfl
        · exact .inr rfl
      have cf := fun w (hb : Below W.heap.size W w) => kfind_c B p v R G m w (h.later hb) hG.len
      rw [posI_some hk] at cf
      have hkR : k < R.length := by
        obtain ⟨x, hx, _⟩ := pos_at hk
        rw [h.len]; exact (List.getElem?_eq_some_iff.1 hx).1
      obtain ⟨g, c, ev, _⟩ := h.at_ (List.getElem?_eq_getElem hkR)
      have ⟨hn0, hn9⟩ := time_bd ht
      have hss := hG.ss
      subst ev
      dsimp only
      obtain ⟨b0, b1, b2, b3, b4, b5, b6, bl, _⟩ := kg7 h.box
      have hk0 : (0 : Int) ≤ (k : Int) := by omega
      have hk1 : (k : Int) < (R.length : Int) := by omega
      clear h hE hG ht hk
      rcases hkE with hkE | hkE
      all_goals
        rw [hkE] at cn
        clear hkE
        by_cases hph : G.ph = 1 ∨ G.ph = 2
        all_goals
          first | rw [if_pos hph] | rw [if_neg hph]
          have hph1 : ∃ a b : Bool, (G.ph == 1) = a ∧ (G.ph == 2) = b ∧ (a || b) = decide (G.ph = 1 ∨ G.ph = 2) := ⟨_, _, rfl, rfl, by
            rcases Decidable.em (G.ph = 1) with e1 | e1 <;> rcases Decidable.em (G.ph = 2) with e2 | e2 <;> simp [e1, e2]⟩
          obtain ⟨qa, qb, hqa, hqb, hqc⟩ := hph1
          first | rw [decide_eq_true hph] at hqc | rw [decide_eq_false hph] at hqc
          clear hph
          go_enter Tryz.func57, Tryz.ntmps57
          go_wp2_with fail
          with_reducible refine (ct _).mono ?_
          rintro e w1 ⟨rfl, hw9⟩
          have hw8 := hw9.symm
          subst hw8
          clear hw9
          go_wp2_with fail
          with_reducible refine cn.mono ?_
          rintro e w1 ⟨rfl, hb1⟩
          have h1 := HI.out.later hb1
          have HB1 := Lib.hid hb1
          have cf1 := cf _ (hb1.trans (((Below.refl w1.heap.size w1).drew).mono hb1.size))
          obtain ⟨u, hS⟩ := h1.hr hkR
          have HK := Lib.hid hkR
          clear cf ct cn h1 hb1 b0 b1 b2 b3 b4 b5 b6 bl
          generalize hi5 : k * 5 = i5 at *
          go_wp2_with fail
          obtain ⟨s1, s2, s3, s4, s5, s6⟩ := hS
          obtain ⟨d1, d2, d3, d4, d5, d6⟩ := KHr.later ⟨s1, s2, s3, s4, s5, s6⟩ ((Below.refl _ _).drew)
          go_region_law (first | (go_simp; go_at_call 92; (with_reducible refine cf1.mono ?_); rintro en w3 ⟨rfl, hb3⟩; (obtain ⟨e1, e2, e3, e4, e5, e6⟩ := KHr.later ⟨d1, d2, d3, d4, d5, d6⟩ hb3)))
          all_goals
            have hw : IntKind.i64.wrap (now + G.ss) = now + G.ss := by rw [IntKind.wrap_i64]; omega
            rw [hw]
            have h3 := HI.out.later (HB1.out.trans ((((Below.refl w1.heap.size w1).drew).trans hb3).mono HB1.out.size))
            obtain ⟨R', hl', h4, o4⟩ := h3.hear HK.out now
            have hph2 : (hearD k now G).ph = G.ph := by unfold hearD; split <;> rfl
            have H4 := Lib.hid h4
            have O4 := Lib.hid ((Off.of_below (GrS p (.slice (some ⟨g, 0, none⟩) R.length c)) (HB1.out.trans ((((Below.refl w1.heap.size w1).drew).trans hb3).mono HB1.out.size))).trans o4 (fun k _ e => e))
            obtain ⟨z0, z1, z2, z3, z4, z5, z6, zl, _⟩ := kg7 h4.box
            rw [hph2] at z2
            clear h3 h4 o4 hph2 hw s1 s2 s3 s4 s5 s6 d1 d2 d3 d4 d5 d6 e1 e2 e3 e4 e5 e6 hb3 cf1 hl'
            rw [hi5] at z0 z1 z2 z3 z4 z5 z6 zl
            cases qa <;> cases qb <;> first | (cases hqc; done) | skip
            all_goals
              go_wp2_with fail
              go_ret
              exact ⟨rfl, .slice (some ⟨g, 0, none⟩) R.length c, R', by rw [← hi5]; exact H4.out, by rw [← hi5]; exact O4.out, fun k hk => .inl hk⟩
    · rw [if_neg (fun e => hE e.2), if_neg hE]
      have hkE : knowE m gen G = nameE m gen G := by unfold knowE; rw [if_neg hE]
      rw [hkE] at cn
      have hcs := nameE_cases m gen G
      clear h hG ht hkE
      rcases hcs with e | e | e
      · exact absurd e hE
      all_goals
        rw [e] at cn ⊢
        clear hE e
        go_enter Tryz.func57, Tryz.ntmps57
        go_wp2_with fail
        with_reducible refine (ct _).mono ?_
        rintro e w1 ⟨rfl, hw9⟩
        have hw8 := hw9.symm
        subst hw8
        clear hw9
        go_wp2_with fail
        with_reducible refine cn.mono ?_
        rintro e w1 ⟨rfl, hb1⟩
        go_wp2_with fail
        go_ret
        exact KWr.mk (HI.out.later hb1) (Off.of_below _ hb1) (fun k hk => .inl hk)
def kleaveE (m now : Int) (G : GD) : Int := if timeB now = true then (match posM m G.L with | some _ => 0 | none => 11) else 1
def kleaveD (m now : Int) (G : GD) : GD := if timeB now = true then (match posM m G.L with | some k => wentD now (eraseD k G) | none => G) else G
theorem eraseD_bd {G : GD} (h : GBd G) (i : Nat) : GBd (eraseD i G) := ⟨by
  show (G.L.take i ++ G.L.drop (i + 1)).length ≤ 100000
  rw [List.length_append, List.length_take, List.length_drop]
  have := h.len
  omega, h.ss, h.rb⟩
set_option maxHeartbeats 4000000 in
set_option maxRecDepth 100000 in
theorem kleave_c (B p : Nat) (v : Value) (R : List MV) (G : GD) (m now : Int) (W : World) (h : KIs W B p v R G) (hG : GBd G) (hBW : B ≤ W.heap.size) (hgn : 0 ≤ G.gn ∧ G.gn ≤ 1000000) :
    Calls Tryz.prog 58 #[.pointer (some ⟨p, 0, none⟩), .int .i64 m, .int .i64 now] W (KWr B p v W (kleaveD m now G) (.int .i64 (kleaveE m now G))) := by
  have ct := fun w => ktime_c now w
  have cf := kfind_c B p v R G m W h hG.len
  have HI := Lib.hid h
  unfold kleaveE kleaveD
  cases ht : timeB now with
  | false =>
    rw [ht] at ct
    rw [if_neg (by decide), if_neg (by decide)]
    clear h hG ht cf
    go_enter Tryz.func58, Tryz.ntmps58
    go_wp2_with fail
    with_reducible refine (ct _).mono ?_
    rintro e w1 ⟨rfl, hw9⟩
    have hw8 := hw9.symm
    subst hw8
    clear hw9
    go_wp2_with fail
    go_ret
    exact KWr.mk HI.out (Off.refl _ _) (fun k hk => .inl hk)
  | true =>
    rw [ht] at ct
    rw [if_pos rfl, if_pos rfl]
    have hn := time_bd ht
    cases hp : posM m G.L with
    | none =>
      rw [posI_none hp] at cf
      clear h hG ht hp
      dsimp only
      go_enter Tryz.func58, Tryz.ntmps58
      go_wp2_with fail
      with_reducible refine (ct _).mono ?_
      rintro e w1 ⟨rfl, hw9⟩
      have hw8 := hw9.symm
      subst hw8
      clear hw9
      go_wp2_with fail
      with_reducible refine cf.mono ?_
      rintro e w1 ⟨rfl, hb1⟩
      go_wp2_with fail
      go_ret
      exact KWr.mk (HI.out.later hb1) (Off.of_below _ hb1) (fun k hk => .inl hk)
    | some k =>
      rw [posI_some hp] at cf
      have hkL : k < G.L.length := by
        obtain ⟨x, hx, _⟩ := pos_at hp
        exact (List.getElem?_eq_some_iff.1 hx).1
      have cd := fun w (hb : Below W.heap.size W w) => kdrop_c B p v R G k w (h.later hb) hG (Nat.le_trans hBW hb.size) hkL
      have cw := fun v R w (hh : KIs w B p v R (eraseD k G)) (hb : B ≤ w.heap.size) => kwent_c B p v R (eraseD k G) now w hh (eraseD_bd hG k) hb hn hgn
      have hk0 : ¬ (k : Int) < 0 := by omega
      clear h hG ht hp
      dsimp only
      go_enter Tryz.func58, Tryz.ntmps58
      go_wp2_with fail
      with_reducible refine (ct _).mono ?_
      rintro e w1 ⟨rfl, hw9⟩
      have hw8 := hw9.symm
      subst hw8
      clear hw9
      go_wp2_with fail
      with_reducible refine cf.mono ?_
      rintro e w1 ⟨rfl, hb1⟩
      have cd1 := cd _ hb1
      have HB1 := Lib.hid hb1
      clear cd cf hb1
      go_wp2_with fail
      with_reducible refine cd1.mono ?_
      rintro e w2 ⟨rfl, v2, R2, h2, o2, hv2⟩
      have O2 := Lib.hid ((Off.of_below (GrS p v) HB1.out).two o2 (fun k hk => .inl hk))
      have V2 := Lib.hid (own_two2 HB1.out.size (fun k hk => .inl hk) hv2)
      have cw2 := cw _ _ _ h2 (Nat.le_trans hBW O2.out.size)
      clear cd1 cw h2 o2 hv2
      go_wp2_with fail
      with_reducible refine cw2.mono ?_
      rintro e w3 ⟨rfl, v3, R3, h3, o3, hv3⟩
      go_wp2_with fail
      go_ret
      exact ⟨rfl, v3, R3, h3, O2.out.two o3 V2.out, own_two2 O2.out.size V2.out hv3⟩
end Go.Proofs.YtlokhhjhckiloaaGreat
/- the document's group: Tick, by a contract. No condition but that numbers are small. -/
namespace Go.Proofs.YtlokhhjhckiloaaGreat
open Go.RowKit
set_option linter.unusedVariables false
/-- The last ones gone through: those above i that were heard in time. -/
def ktL (now : Int) (L : List MD) (i : Nat) : List MD := L.take i ++ (L.drop i).filter fun x => !decide (x.u ≤ now)
theorem ktL_all (now : Int) (L : List MD) : ktL now L L.length = L := by simp [ktL]
theorem ktL_zero (now : Int) (L : List MD) : ktL now L 0 = L.filter fun x => !decide (x.u ≤ now) := by simp [ktL]
theorem ktL_len (now : Int) (L : List MD) (i : Nat) : (ktL now L i).length ≤ L.length := by
  unfold ktL
  rw [List.length_append, List.length_take]
  have := List.length_filter_le (fun x : MD => !decide (x.u ≤ now)) (L.drop i)
  rw [List.length_drop] at this
  omega
theorem ktL_at {now : Int} {L : List MD} {i : Nat} {x : MD} (hx : L[i]? = some x) : (ktL now L (i + 1))[i]? = some x := by
  have hl := (List.getElem?_eq_some_iff.1 hx).1
  unfold ktL
  rw [List.getElem?_append_left (by rw [List.length_take]; omega), List.getElem?_take, if_pos (by omega), hx]
theorem ktL_keep {now : Int} {L : List MD} {i : Nat} {x : MD} (hx : L[i]? = some x) (h : ¬ x.u ≤ now) : ktL now L i = ktL now L (i + 1) := by
  have hl := (List.getElem?_eq_some_iff.1 hx).1
  have hxx : L[i] = x := (List.getElem?_eq_some_iff.1 hx).2
  unfold ktL
  rw [List.drop_eq_getElem_cons hl, hxx, List.filter_cons_of_pos (by simp; omega), List.take_add_one, hx, Option.toList_some, List.append_assoc]
  rfl
theorem ktL_gone {now : Int} {L : List MD} {i : Nat} {x : MD} (hx : L[i]? = some x) (h : x.u ≤ now) : ktL now L i = (ktL now L (i + 1)).take i ++ (ktL now L (i + 1)).drop (i + 1) := by
  have hl := (List.getElem?_eq_some_iff.1 hx).1
  have hxx : L[i] = x := (List.getElem?_eq_some_iff.1 hx).2
  have ht : (L.take (i + 1)).length = i + 1 := by rw [List.length_take]; omega
  unfold ktL
  have h0 : List.drop (i + 1) (List.take (i + 1) L) = [] := List.drop_of_length_le (by omega)
  rw [List.drop_eq_getElem_cons hl, hxx, List.filter_cons_of_neg (by simp; omega), List.take_append_of_le_length (by omega), List.take_take, Nat.min_eq_left (by omega), List.drop_append_of_le_length (by omega), h0, List.nil_append]
def ktick1D (now : Int) (G : GD) : GD := if (ktL now G.L 0).length < G.L.length then wentD now { G with L := ktL now G.L 0 } else { G with L := ktL now G.L 0 }
def ktick2D (now : Int) (G : GD) : GD := if G.ph = 1 ∧ G.un ≤ now then closeD now G else if G.ph = 2 ∧ G.un ≤ now then beginD now (eraseD 0 G) else G
def ktickD (now : Int) (G : GD) : GD := if timeB now = true then ktick2D now (ktick1D now G) else G
theorem GBd.withL {G : GD} (h : GBd G) {L : List MD} (hl : L.length ≤ 100000) : GBd { G with L := L } := ⟨hl, h.ss, h.rb⟩
theorem GBd.emptyD {G : GD} (h : GBd G) : GBd (emptyD G) := by
  unfold Go.Proofs.YtlokhhjhckiloaaGreat.emptyD
  split
  · exact ⟨h.len, h.ss, h.rb⟩
  · exact h
theorem GBd.wentD {G : GD} (h : GBd G) (now : Int) : GBd (wentD now G) := by
  unfold Go.Proofs.YtlokhhjhckiloaaGreat.wentD
  split
  · exact h.emptyD
  · split
    · exact h.whole now
    · exact h.begin now
theorem emptyD_gn (G : GD) : (emptyD G).gn = G.gn := by unfold emptyD; split <;> rfl
theorem wentD_gn (now : Int) (G : GD) : (wentD now G).gn = G.gn ∨ (wentD now G).gn = G.gn + 1 := by
  unfold wentD
  split
  · exact .inl (emptyD_gn G)
  · split
    · exact wholeD_gn now G
    · exact .inl (beginD_gn now G)
theorem ktick1D_bd {G : GD} (h : GBd G) (now : Int) : GBd (ktick1D now G) := by
  have h2 := h.withL (Nat.le_trans (ktL_len now G.L 0) h.len)
  unfold ktick1D
  split
  · exact h2.wentD now
  · exact h2
theorem ktick1D_gn (now : Int) (G : GD) : (ktick1D now G).gn = G.gn ∨ (ktick1D now G).gn = G.gn + 1 := by
  unfold ktick1D
  split
  · exact wentD_gn now _
  · exact .inl rfl
/-- Ticking under way. -/
structure KtS (W : World) (B p : Nat) (v0 : Value) (G : GD) (v : Value) (R : List MV) (w : World) : Prop where
  is : KIs w B p v R G
  off : Off (GrS p v0) W w
  val : ∀ k, v.ownBlock = some k → v0.ownBlock = some k ∨ W.heap.size ≤ k
set_option maxHeartbeats 8000000 in
set_option maxRecDepth 100000 in
theorem ktick_c (B p : Nat) (v : Value) (R : List MV) (G : GD) (now : Int) (W : World) (h : KIs W B p v R G) (hG : GBd G) (hBW : B ≤ W.heap.size) (hgn : 0 ≤ G.gn ∧ G.gn ≤ 999999) (hne : (ktick1D now G).ph = 2 → (ktick1D now G).L ≠ []) :
    Calls Tryz.prog 64 #[.pointer (some ⟨p, 0, none⟩), .int .i64 now] W (KWr B p v W (ktickD now G) (.tuple #[])) := by
  have ct := fun w => ktime_c now w
  have HI := Lib.hid h
  unfold ktickD
  cases ht : timeB now with
  | false =>
    rw [ht] at ct
    rw [if_neg (by decide)]
    clear h hG ht hne
    go_enter Tryz.func64, Tryz.ntmps64
    go_wp2_with fail
    with_reducible refine (ct _).mono ?_
    rintro e w1 ⟨rfl, hw9⟩
    have hw8 := hw9.symm
    subst hw8
    clear hw9
    go_wp2_with fail
    go_end0
    exact KWr.mk HI.out (Off.refl _ _) (fun k hk => .inl hk)
  | true =>
    rw [ht] at ct
    rw [if_pos rfl]
    have hn := time_bd ht
    have HG := Lib.hid hG
    have hlen := h.len
    have hlL := hG.len
    obtain ⟨b0, b1, b2, b3, b4, b5, b6, bl, _⟩ := kg7 h.box
    obtain ⟨A, c, hv⟩ := own_slice h.row
    subst hv
    have hRl : R.length ≤ 100000 := by omega
    have HL := Lib.hid hlen
    have HNE := Lib.hid hne
    have hS0 : KtS W B p (.slice A R.length c) { G with L := ktL now G.L G.L.length } (.slice A R.length c) R W := ⟨by rw [ktL_all]; exact h, Off.refl _ _, fun k hk => .inl hk⟩
    rw [← hlen] at hS0
    have HS0 := Lib.hid hS0
    clear h hG ht hlen hS0 hlL hne
    go_enter Tryz.func64, Tryz.ntmps64
    go_wp2_with fail
    with_reducible refine (ct _).mono ?_
    rintro e w1 ⟨rfl, hw9⟩
    have hw8 := hw9.symm
    subst hw8
    clear hw9
    go_wp2_with fail
    go_loopw [5] (fun j wr => ∃ (i : Nat) (v : Value) (R1 : List MV), j = .int .i64 ((i : Int) - 1) ∧ i ≤ R.length ∧ KtS W B p (.slice A R.length c) { G with L := ktL now G.L i } v R1 wr) (fun j _ => (intOf j + 1).toNat)
    case atStart => exact ⟨R.length, _, _, rfl, Nat.le_refl _, HS0.out⟩
    case round =>
      obtain ⟨i, v1, R1, rfl, hik, hS⟩ := hrel
      clear HS0 b0 b1 b2 b3 b4 b5 b6 bl
      obtain ⟨b0, b1, b2, b3, b4, b5, b6, bl, _⟩ := kg7 hS.is.box
      obtain ⟨A1, c1, ev1⟩ := own_slice hS.is.row
      subst ev1
      have HS := Lib.hid hS
      by_cases hi0 : 0 < i
      · obtain ⟨k, rfl⟩ : ∃ k, i = k + 1 := ⟨i - 1, by omega⟩
        have hkG : k < G.L.length := by have := HL.out; omega
        obtain ⟨x, hx⟩ : ∃ x, G.L[k]? = some x := ⟨_, List.getElem?_eq_getElem hkG⟩
        have hat := ktL_at (now := now) hx
        have hR1 : (R1.map MV.d)[k]? = some x := by rw [hS.is.abs]; exact hat
        rw [List.getElem?_map] at hR1
        cases hy : R1[k]? with
        | none => rw [hy] at hR1; cases hR1
        | some y =>
          rw [hy] at hR1
          have hyx : y.d = x := by simpa using hR1
          obtain ⟨g, c', e, hgl, _, _, _, _, q2, _⟩ := hS.is.at_ hy
          injection e with e en ec
          subst e
          rw [hyx] at q2
          have hkR1 : k < R1.length := (List.getElem?_eq_some_iff.1 hy).1
          have hkk : ((k : Int) + 1 - 1) = (k : Int) := by omega
          have hcast : (((k + 1 : Nat) : Int) - 1) = (k : Int) := by omega
          have hk0 : (0 : Int) ≤ (k : Int) := by omega
          have hk1 : (k : Int) < (R1.length : Int) := by omega
          rw [hcast]
          clear hat hR1 hy hyx en ec hkk hcast
          by_cases hu : x.u ≤ now
          · have HK : Hid (ktL now G.L k = (ktL now G.L (k + 1)).take k ++ (ktL now G.L (k + 1)).drop (k + 1)) := Lib.hid (ktL_gone hx hu)
            have cd := kdrop_c B p _ R1 _ k wr hS.is (HG.out.withL (Nat.le_trans (ktL_len now G.L (k + 1)) HG.out.len)) (Nat.le_trans hBW hS.off.size) (by rw [← hS.is.len]; exact hkR1)
            clear hS hx
            generalize x.u = xu at *
            generalize hi5 : k * 5 = i5 at *
            go_wp2_with fail
            with_reducible refine cd.mono ?_
            rintro e w3 ⟨rfl, v3, R3, h3, o3, hv3⟩
            have H3 : Hid (KtS W B p (.slice A R.length c) { G with L := ktL now G.L k } v3 R3 w3) := Lib.hid ⟨by rw [HK.out]; exact h3, HS.out.off.two o3 HS.out.val, own_two2 HS.out.off.size HS.out.val hv3⟩
            clear h3 o3 hv3 cd
            go_wp2_with fail
            go_roundw
            case rel => exact ⟨k, v3, R3, by go_num, by omega, H3.out⟩
            case measure => simp [intOf]
          · have HK : Hid (ktL now G.L k = ktL now G.L (k + 1)) := Lib.hid (ktL_keep hx hu)
            clear hS hx
            generalize x.u = xu at *
            generalize hi5 : k * 5 = i5 at *
            go_wp2_with fail
            go_roundw
            case rel => exact ⟨k, _, R1, by go_num, by omega, by rw [HK.out]; exact HS.out⟩
            case measure => simp [intOf]
      · have hi : i = 0 := by omega
        subst hi
        have hl1 : R1.length = (ktL now G.L 0).length := hS.is.len
        have hGd := HG.out.withL (Nat.le_trans (ktL_len now G.L 0) HG.out.len)
        have cw := kwent_c B p _ R1 _ now wr hS.is hGd (Nat.le_trans hBW hS.off.size) hn ⟨hgn.1, by have := hgn.2; show G.gn ≤ 1000000; omega⟩
        have hG2 := ktick1D_bd HG.out now
        have hgn2 : 0 ≤ (ktick1D now G).gn ∧ (ktick1D now G).gn ≤ 1000000 := by rcases ktick1D_gn now G with e | e <;> rw [e] <;> omega
        have hne2 := HNE.out
        obtain ⟨G2, hG2e⟩ : ∃ G2, ktick1D now G = G2 := ⟨_, rfl⟩
        have HE := Lib.hid hG2e
        have HTK : Hid (ktick2D now (ktick1D now G) = ktick2D now G2) := Lib.hid (by rw [hG2e])
        rw [hG2e] at hG2 hgn2 hne2
        have cc := fun v R w (hh : KIs w B p v R G2) (hb : B ≤ w.heap.size) => kclose_c B p v R G2 now w hh hG2 hb hn hgn2
        clear hS hG2e
        by_cases hlt : (ktL now G.L 0).length < G.L.length
        · have hq : (R1.length : Int) < (R.length : Int) := by have := HL.out; omega
          have HQ : Hid (wentD now { G with L := ktL now G.L 0 } = G2) := Lib.hid (by rw [← HE.out]; unfold ktick1D; rw [if_pos hlt])
          rw [HQ.out] at cw
          clear hlt hl1
          go_wp2_with fail
          with_reducible refine cw.mono ?_
          rintro e w3 ⟨rfl, v3, R3, h3, o3, hv3⟩
          have T2 : Hid (KtS W B p (.slice A R.length c) G2 v3 R3 w3) := Lib.hid ⟨h3, HS.out.off.two o3 HS.out.val, own_two2 HS.out.off.size HS.out.val hv3⟩
          clear h3 o3 hv3 cw b0 b1 b2 b3 b4 b5 b6 bl
          obtain ⟨y0, y1, y2, y3, y4, y5, y6, yl, _⟩ := kg7 T2.out.is.box
          have cc2 := cc _ _ _ T2.out.is (Nat.le_trans hBW T2.out.off.size)
          clear cc
          by_cases hc1 : G2.ph = 1 ∧ G2.un ≤ now
          · have HT2 : Hid (ktick2D now G2 = closeD now G2) := Lib.hid (by unfold ktick2D; rw [if_pos hc1])
            obtain ⟨hp1, hu1⟩ := hc1
            have hp1' : (G2.ph == 1) = true := by rw [hp1]; rfl
            clear hp1 hne2
            go_wp2_with fail
            with_reducible refine cc2.mono ?_
            rintro e w5 ⟨rfl, v5, R5, h5, o5, hv5⟩
            go_wp2_with fail
            go_end0
            rw [HTK.out, HT2.out]
            exact ⟨rfl, v5, R5, h5, T2.out.off.two o5 T2.out.val, own_two2 T2.out.off.size T2.out.val hv5⟩
          clear cc2
          by_cases hc2 : G2.ph = 2 ∧ G2.un ≤ now
          · have HT2 : Hid (ktick2D now G2 = beginD now (eraseD 0 G2)) := Lib.hid (by unfold ktick2D; rw [if_neg hc1, if_pos hc2])
            obtain ⟨hp1, hu1⟩ := hc2
            have hp1' : (G2.ph == 1) = false := by rw [hp1]; rfl
            have hp2' : (G2.ph == 2) = true := by rw [hp1]; rfl
            have hL0 := List.length_pos_iff.2 (hne2 hp1)
            have cd := kdrop_c B p _ _ G2 0 _ T2.out.is hG2 (Nat.le_trans hBW T2.out.off.size) hL0
            rw [show ((0 : Nat) : Int) = (0 : Int) from rfl] at cd
            have cb := fun v R w (hh : KIs w B p v R (eraseD 0 G2)) => kanew_c B p v R (eraseD 0 G2) now w hh (eraseD_bd hG2 0) hn
            clear hp1 hne2 hc1 hL0
            go_wp2_with fail
            with_reducible refine cd.mono ?_
            rintro e w5 ⟨rfl, v5, R5, h5, o5, hv5⟩
            have cb5 := cb _ _ _ h5
            have O5 := Lib.hid (T2.out.off.two o5 T2.out.val)
            have V5 := Lib.hid (own_two2 T2.out.off.size T2.out.val hv5)
            clear h5 o5 hv5 cd cb
            go_wp2_with fail
            with_reducible refine cb5.mono ?_
            rintro e w6 ⟨rfl, v6, R6, h6, o6, hv6⟩
            go_wp2_with fail
            go_end0
            rw [HTK.out, HT2.out]
            exact ⟨rfl, v6, R6, h6, O5.out.two o6 V5.out, own_two2 O5.out.size V5.out hv6⟩
          · have HT2 : Hid (ktick2D now G2 = G2) := Lib.hid (by unfold ktick2D; rw [if_neg hc1, if_neg hc2])
            have h1 : (G2.ph == 1) = false ∨ ((G2.ph == 1) = true ∧ ¬ G2.un ≤ now) := by
              by_cases e : G2.ph = 1
              · exact .inr ⟨by rw [e]; rfl, fun hu => hc1 ⟨e, hu⟩⟩
              · exact .inl (beq_eq_false_iff_ne.2 e)
            have h2 : (G2.ph == 2) = false ∨ ((G2.ph == 2) = true ∧ ¬ G2.un ≤ now) := by
              by_cases e : G2.ph = 2
              · exact .inr ⟨by rw [e]; rfl, fun hu => hc2 ⟨e, hu⟩⟩
              · exact .inl (beq_eq_false_iff_ne.2 e)
            clear hc1 hc2 hne2
            rcases h1 with h1 | ⟨h1, h1u⟩ <;> rcases h2 with h2 | ⟨h2, h2u⟩
            all_goals
              go_wp2_with fail
              go_end0
              rw [HTK.out, HT2.out]
              exact ⟨rfl, _, _, T2.out.is, T2.out.off, T2.out.val⟩
        · have hq : ¬ (R1.length : Int) < (R.length : Int) := by have := HL.out; omega
          have T2 : Hid (KtS W B p (.slice A R.length c) G2 (.slice A1 R1.length c1) R1 wr) := Lib.hid (by
            have e : G2 = { G with L := ktL now G.L 0 } := by rw [← HE.out]; unfold ktick1D; rw [if_neg hlt]
            rw [e]; exact HS.out)
          clear hlt hl1 cw
          obtain ⟨y0, y1, y2, y3, y4, y5, y6, yl, _⟩ := kg7 T2.out.is.box
          clear y0 y1 y2 y3 y4 y5 y6 yl
          obtain ⟨y0, y1, y2, y3, y4, y5, y6, yl, _⟩ := kg7 T2.out.is.box
          clear b0 b1 b2 b3 b4 b5 b6 bl
          have cc2 := cc _ _ _ T2.out.is (Nat.le_trans hBW T2.out.off.size)
          clear cc
          by_cases hc1 : G2.ph = 1 ∧ G2.un ≤ now
          · have HT2 : Hid (ktick2D now G2 = closeD now G2) := Lib.hid (by unfold ktick2D; rw [if_pos hc1])
            obtain ⟨hp1, hu1⟩ := hc1
            have hp1' : (G2.ph == 1) = true := by rw [hp1]; rfl
            clear hp1 hne2
            go_wp2_with fail
            with_reducible refine cc2.mono ?_
            rintro e w5 ⟨rfl, v5, R5, h5, o5, hv5⟩
            go_wp2_with fail
            go_end0
            rw [HTK.out, HT2.out]
            exact ⟨rfl, v5, R5, h5, T2.out.off.two o5 T2.out.val, own_two2 T2.out.off.size T2.out.val hv5⟩
          clear cc2
          by_cases hc2 : G2.ph = 2 ∧ G2.un ≤ now
          · have HT2 : Hid (ktick2D now G2 = beginD now (eraseD 0 G2)) := Lib.hid (by unfold ktick2D; rw [if_neg hc1, if_pos hc2])
            obtain ⟨hp1, hu1⟩ := hc2
            have hp1' : (G2.ph == 1) = false := by rw [hp1]; rfl
            have hp2' : (G2.ph == 2) = true := by rw [hp1]; rfl
            have hL0 := List.length_pos_iff.2 (hne2 hp1)
            have cd := kdrop_c B p _ _ G2 0 _ T2.out.is hG2 (Nat.le_trans hBW T2.out.off.size) hL0
            rw [show ((0 : Nat) : Int) = (0 : Int) from rfl] at cd
            have cb := fun v R w (hh : KIs w B p v R (eraseD 0 G2)) => kanew_c B p v R (eraseD 0 G2) now w hh (eraseD_bd hG2 0) hn
            clear hp1 hne2 hc1 hL0
            go_wp2_with fail
            with_reducible refine cd.mono ?_
            rintro e w5 ⟨rfl, v5, R5, h5, o5, hv5⟩
            have cb5 := cb _ _ _ h5
            have O5 := Lib.hid (T2.out.off.two o5 T2.out.val)
            have V5 := Lib.hid (own_two2 T2.out.off.size T2.out.val hv5)
            clear h5 o5 hv5 cd cb
            go_wp2_with fail
            with_reducible refine cb5.mono ?_
            rintro e w6 ⟨rfl, v6, R6, h6, o6, hv6⟩
            go_wp2_with fail
            go_end0
            rw [HTK.out, HT2.out]
            exact ⟨rfl, v6, R6, h6, O5.out.two o6 V5.out, own_two2 O5.out.size V5.out hv6⟩
          · have HT2 : Hid (ktick2D now G2 = G2) := Lib.hid (by unfold ktick2D; rw [if_neg hc1, if_neg hc2])
            have h1 : (G2.ph == 1) = false ∨ ((G2.ph == 1) = true ∧ ¬ G2.un ≤ now) := by
              by_cases e : G2.ph = 1
              · exact .inr ⟨by rw [e]; rfl, fun hu => hc1 ⟨e, hu⟩⟩
              · exact .inl (beq_eq_false_iff_ne.2 e)
            have h2 : (G2.ph == 2) = false ∨ ((G2.ph == 2) = true ∧ ¬ G2.un ≤ now) := by
              by_cases e : G2.ph = 2
              · exact .inr ⟨by rw [e]; rfl, fun hu => hc2 ⟨e, hu⟩⟩
              · exact .inl (beq_eq_false_iff_ne.2 e)
            clear hc1 hc2 hne2
            rcases h1 with h1 | ⟨h1, h1u⟩ <;> rcases h2 with h2 | ⟨h2, h2u⟩
            all_goals
              go_wp2_with fail
              go_end0
              rw [HTK.out, HT2.out]
              exact ⟨rfl, _, _, T2.out.is, T2.out.off, T2.out.val⟩
end Go.Proofs.YtlokhhjhckiloaaGreat
/- the document's group: what its data keeps. Plain laws. No condition. -/
namespace Go.Proofs.YtlokhhjhckiloaaGreat
open Go.RowKit
set_option linter.unusedVariables false
section
variable {k : Int} {G : GD}
theorem GQ.withL (h : GQ k G) {L : List MD} (hl : L.length ≤ 20) (ha : ∀ x ∈ L, x ∈ G.L) : GQ k { G with L := L } := ⟨hl, h.ss, h.rb, h.gn, h.nx, fun x hx => h.all x (ha x hx)⟩
theorem ktL_mem {now : Int} {L : List MD} {i : Nat} {x : MD} (hx : x ∈ ktL now L i) : x ∈ L := by
  unfold ktL at hx
  rcases List.mem_append.1 hx with hx | hx
  · exact List.mem_of_mem_take hx
  · exact List.mem_of_mem_drop (List.mem_filter.1 hx).1
theorem GQ.erase (h : GQ k G) (i : Nat) : GQ k (eraseD i G) := by
  refine h.withL ?_ (fun x hx => ?_)
  · have := h.len
    rw [List.length_append, List.length_take, List.length_drop]
    omega
  · rcases List.mem_append.1 hx with hx | hx
    · exact List.mem_of_mem_take hx
    · exact List.mem_of_mem_drop hx
theorem GQ.empty (h : GQ k G) : GQ k (emptyD G) := by
  unfold emptyD
  split
  · exact ⟨h.len, h.ss, h.rb, h.gn, h.nx, h.all⟩
  · exact h
theorem GQ.went (h : GQ k G) (now : Int) : GQ (k + 1) (wentD now G) := by
  unfold wentD
  split
  · exact h.empty.mono (by omega)
  · split
    · exact h.whole now
    · exact (h.begin now).mono (by omega)
theorem GQ.ktick1 (h : GQ k G) (now : Int) : GQ (k + 1) (ktick1D now G) := by
  have h2 : GQ k { G with L := ktL now G.L 0 } := h.withL (Nat.le_trans (ktL_len now G.L 0) h.len) (fun x hx => ktL_mem hx)
  unfold ktick1D
  split
  · exact h2.went now
  · exact h2.mono (by omega)
theorem GQ.ktick2 (h : GQ k G) (now : Int) : GQ (k + 1) (ktick2D now G) := by
  unfold ktick2D
  split
  · exact h.close now
  · split
    · exact ((h.erase 0).begin now).mono (by omega)
    · exact h.mono (by omega)
theorem GQ.ktick (h : GQ k G) (now : Int) : GQ (k + 2) (ktickD now G) := by
  unfold ktickD
  split
  · exact ((h.ktick1 now).ktick2 now).mono (by omega)
  · exact h.mono (by omega)
theorem GQ.kleave (h : GQ k G) (m now : Int) : GQ (k + 1) (kleaveD m now G) := by
  unfold kleaveD
  split
  · cases posM m G.L with
    | none => exact h.mono (by omega)
    | some i => exact (h.erase i).went now
  · exact h.mono (by omega)
theorem GN.went (now : Int) : GN (wentD now G) := by
  unfold wentD
  split
  · rename_i e
    refine .inl ?_
    unfold emptyD
    rw [if_pos e]
  · split
    · exact GN.whole now
    · exact GN.begin now
theorem GN.ktick1 (h : GN G) (now : Int) : GN (ktick1D now G) := by
  unfold ktick1D
  split
  · exact GN.went now
  · rename_i hd
    rcases h with h | h
    · exact .inl h
    · refine .inr (fun e => ?_)
      have e' : ktL now G.L 0 = [] := e
      rw [e'] at hd
      exact hd (List.length_pos_iff.2 h)
theorem GN.ktick2 (h : GN G) (now : Int) : GN (ktick2D now G) := by
  unfold ktick2D
  split
  · exact GN.close now
  · split
    · exact GN.begin now
    · exact h
theorem GN.ktick (h : GN G) (now : Int) : GN (ktickD now G) := by
  unfold ktickD
  split
  · exact (h.ktick1 now).ktick2 now
  · exact h
theorem GN.kleave (h : GN G) (m now : Int) : GN (kleaveD m now G) := by
  unfold kleaveD
  split
  · cases posM m G.L with
    | none => exact h
    | some i => exact GN.went now
  · exact h
/-- Tick's condition. -/
theorem GN.syncing (h : GN G) (now : Int) : (ktick1D now G).ph = 2 → (ktick1D now G).L ≠ [] := fun h2 => by
  rcases h.ktick1 now with e | e
  · rw [h2] at e; cases e
  · exact e
end
end Go.Proofs.YtlokhhjhckiloaaGreat
