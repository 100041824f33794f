/- member: a group in memory, and what it is as data. Plain laws. No condition. -/
import Derived.Test.YtlokhhjhckiloaaGreatAsRow
import Derived.Lib.SliceRun
namespace Go.Proofs.YtlokhhjhckiloaaGreat
open Go.RowKit
set_option linter.unusedVariables false
/-- A member as data. -/
structure MD where
  n : Int
  T : List ByteArray
  u : Int
  j : Bool
  P : List TX
/-- A member and its two slices. -/
structure MV where
  d : MD
  tv : Value
  pv : Value
/-- A group as data: phase, generation, next, until, members; how long a member lives, how long a phase lasts. -/
structure GD where
  ph : Int
  gn : Int
  nx : Int
  un : Int
  L : List MD
  ss : Int
  rb : Int
def mvC (x : MV) : List Value := [.int .i64 x.d.n, x.tv, .int .i64 x.d.u, .bool x.d.j, x.pv]
def mvV (x : MV) : Value := .agg #[.int .i64 x.d.n, x.tv, .int .i64 x.d.u, .bool x.d.j, x.pv]
def mvR (R : List MV) : List Value := R.flatMap mvC
def strC (T : List ByteArray) : List Value := T.map .string
theorem mvR_cons (x : MV) (R : List MV) : mvR (x :: R) = .int .i64 x.d.n :: x.tv :: .int .i64 x.d.u :: .bool x.d.j :: x.pv :: mvR R := rfl
theorem mvR_app (R R' : List MV) : mvR (R ++ R') = mvR R ++ mvR R' := by simp [mvR]
theorem mvR_len (R : List MV) : (mvR R).length = R.length * 5 := by
  induction R with
  | nil => rfl
  | cons a L ih => rw [mvR_cons]; simp only [List.length_cons, ih]; omega
theorem mvR_at {R : List MV} {k : Nat} {x : MV} (h : R[k]? = some x) : (mvR R)[k * 5]? = some (.int .i64 x.d.n) ∧ (mvR R)[k * 5 + 1]? = some x.tv ∧ (mvR R)[k * 5 + 2]? = some (.int .i64 x.d.u) ∧ (mvR R)[k * 5 + 3]? = some (.bool x.d.j) ∧ (mvR R)[k * 5 + 4]? = some x.pv := by
  induction R generalizing k with
  | nil => simp at h
  | cons a L ih =>
    rw [mvR_cons]
    cases k with
    | zero => simp at h; subst h; exact ⟨rfl, rfl, rfl, rfl, rfl⟩
    | succ k => have := ih (k := k) (by simpa using h); rw [show (k + 1) * 5 = k * 5 + 1 + 1 + 1 + 1 + 1 by omega]; simpa using this
theorem mvR_set (R : List MV) (k : Nat) (x : MV) (hk : k < R.length) (y : MV) (hx : R[k]? = some x) (i : Nat) (u : Value) (hi : i < 5) (he : (mvC x).set i u = mvC y) : (mvR R).set (k * 5 + i) u = mvR (R.set k y) := by
  induction R generalizing k with
  | nil => simp at hx
  | cons a L ih =>
    rw [show mvR (a :: L) = mvC a ++ mvR L from rfl]
    cases k with
    | zero =>
      simp at hx; subst hx
      rw [Nat.zero_mul, Nat.zero_add, List.set_append_left _ _ (by simpa [mvC] using hi), he]
      rfl
    | succ k =>
      have := ih k (by simpa using hk) (by simpa using hx)
      rw [List.set_append_right _ _ (by simp [mvC]; omega), show (k + 1) * 5 + i - (mvC a).length = k * 5 + i by simp [mvC]; omega, this]
      rfl
theorem mvR_one (R : List MV) (h : ∀ x ∈ R, x.tv.oneCell' = true ∧ x.pv.oneCell' = true) : ∀ u ∈ mvR R, u.oneCell' = true := by
  intro u hu
  simp only [mvR, List.mem_flatMap] at hu
  obtain ⟨x, hx, hu⟩ := hu
  simp only [mvC, List.mem_cons, List.not_mem_nil, or_false] at hu
  rcases hu with rfl | rfl | rfl | rfl | rfl
  · rfl
  · exact (h x hx).1
  · rfl
  · rfl
  · exact (h x hx).2
theorem strC_len (T : List ByteArray) : (strC T).length = T.length * 1 := by simp [strC]
/-- A member's two rows. -/
structure MvOk (w : World) (B : Nat) (x : MV) : Prop where
  tr : w.ownsRow B 9 1 x.tv x.d.T.length (strC x.d.T)
  pr : w.ownsRow B 34 2 x.pv x.d.P.length (prtC x.d.P)
/-- A group in memory. -/
structure GrIs (w : World) (B p : Nat) (v : Value) (R : List MV) (G : GD) : Prop where
  box : Box w p 109 #[.int .i64 G.ph, .int .i64 G.gn, .int .i64 G.nx, .int .i64 G.un, v, .int .i64 G.ss, .int .i64 G.rb]
  base : B ≤ p
  row : w.ownsRow B 95 5 v R.length (mvR R)
  all : ∀ x ∈ R, MvOk w B x
  abs : R.map MV.d = G.L
section
variable {w w' : World} {B p : Nat} {v : Value} {R : List MV} {G : GD}
theorem GrIs.len (h : GrIs w B p v R G) : R.length = G.L.length := by rw [← h.abs, List.length_map]
theorem own_types {t size n size' n' t' : Nat} {b : Nat} {v' : Value} {xs ys : List Value} (h : w.ownsRow B t size v n xs) (h' : w.ownsRow b t' size' v' n' ys) (hne : t ≠ t') : ∀ k, v.ownBlock = some k → ¬ v'.ownBlock = some k :=
  fun k hk hk' => own_two h h' hne k hk hk'
theorem MvOk.off {S : Nat → Prop} {x : MV} (h : MvOk w B x) (ho : Off S w w') (h1 : ∀ k, x.tv.ownBlock = some k → ¬ S k) (h2 : ∀ k, x.pv.ownBlock = some k → ¬ S k) : MvOk w' B x := ⟨own_off h.tr ho h1, own_off h.pr ho h2⟩
theorem MvOk.later {x : MV} (h : MvOk w B x) (hb : Below w.heap.size w w') : MvOk w' B x := ⟨own_below h.tr hb, own_below h.pr hb⟩
theorem MvOk.base_le {x : MV} {b : Nat} (h : MvOk w B x) (hb : b ≤ B) : MvOk w b x := by
  have q : ∀ {t size n : Nat} {u : Value} {xs : List Value}, w.ownsRow B t size u n xs → w.ownsRow b t size u n xs := fun hr => by
    refine ⟨hr.1, ?_⟩
    rcases hr.2 with h0 | ⟨g, cap, cur, rfl, hbg, hg, hr⟩
    · exact .inl h0
    · exact .inr ⟨g, cap, cur, rfl, Nat.le_trans hb hbg, hg, hr⟩
  exact ⟨q h.tr, q h.pr⟩
/-- What a group's calls may write. -/
def GrS (p : Nat) (v : Value) (k : Nat) : Prop := k = p ∨ v.ownBlock = some k
theorem GrIs.off {S : Nat → Prop} (h : GrIs w B p v R G) (ho : Off S w w') (hs : ∀ k, S k → k < B ∨ w.heap.size ≤ k) : GrIs w' B p v R G := by
  have q : ∀ {t size n : Nat} {u : Value} {xs : List Value}, w.ownsRow B t size u n xs → w'.ownsRow B t size u n xs := fun hr => own_off hr ho (fun k hk hS => by have := own_blk hr hk; rcases hs k hS with h | h <;> omega)
  exact ⟨h.box.off ho (fun hS => by have := h.box.lt; have := h.base; rcases hs p hS with h | h <;> omega), h.base, q h.row, fun x hx => ⟨q (h.all x hx).tr, q (h.all x hx).pr⟩, h.abs⟩
theorem GrIs.later (h : GrIs w B p v R G) (hb : Below w.heap.size w w') : GrIs w' B p v R G := h.off (Off.of_below (fun _ => False) hb) (fun _ x => x.elim)
/-- The group's own block has turned, no more. -/
theorem GrIs.put {G' : GD} (h : GrIs w B p v R G) (ho : Off (· = p) w w') (hb : Box w' p 109 #[.int .i64 G'.ph, .int .i64 G'.gn, .int .i64 G'.nx, .int .i64 G'.un, v, .int .i64 G'.ss, .int .i64 G'.rb]) (hL : G'.L = G.L) : GrIs w' B p v R G' := by
  have q : ∀ {t size n : Nat} {u : Value} {xs : List Value}, w.ownsRow B t size u n xs → t ≠ 109 → w'.ownsRow B t size u n xs := fun hr hne => own_off hr ho (fun k hk hS => own_ne hr h.box (fun e => hne e.symm) k hk hS)
  exact ⟨hb, h.base, q h.row (by decide), fun x hx => ⟨q (h.all x hx).tr (by decide), q (h.all x hx).pr (by decide)⟩, by rw [hL]; exact h.abs⟩
theorem GrIs.abs' {G' : GD} {w : World} {L : List MD} (h : GrIs w B p v R G) (hL : R.map MV.d = L) (hG : G' = { G with L := L } := by rfl) : GrIs w B p v R G' := by
  subst hG
  exact ⟨h.box, h.base, h.row, h.all, hL⟩
/-- The members' row has turned, no more. -/
theorem GrIs.rows {G' : GD} {R' : List MV} {v' : Value} {S : Nat → Prop} (h : GrIs w B p v R G) (ho : Off S w w') (hS : ∀ k, S k → GrS p v k ∨ w.heap.size ≤ k)
    (hb : Box w' p 109 #[.int .i64 G'.ph, .int .i64 G'.gn, .int .i64 G'.nx, .int .i64 G'.un, v', .int .i64 G'.ss, .int .i64 G'.rb]) (hr : w'.ownsRow B 95 5 v' R'.length (mvR R'))
    (ha : ∀ x ∈ R', (∃ y ∈ R, y.tv = x.tv ∧ y.pv = x.pv ∧ y.d.T = x.d.T ∧ y.d.P = x.d.P) ∨ MvOk w' B x) (hL : R'.map MV.d = G'.L) : GrIs w' B p v' R' G' := by
  have q : ∀ {t size n : Nat} {u : Value} {xs : List Value}, w.ownsRow B t size u n xs → t ≠ 109 → t ≠ 95 → w'.ownsRow B t size u n xs := fun hr hne hn2 => own_off hr ho (fun k hk hk2 => by
    have hlt := (own_blk hr hk).2
    rcases hS k hk2 with (rfl | e) | e
    · exact own_ne hr h.box (fun e => hne e.symm) k hk rfl
    · exact own_two hr h.row hn2 k hk e
    · omega)
  refine ⟨hb, h.base, hr, fun x hx => ?_, hL⟩
  rcases ha x hx with ⟨y, hy, e1, e2, e3, e4⟩ | hx
  · have := h.all y hy
    refine ⟨?_, ?_⟩
    · rw [← e1, ← e3]; exact q this.tr (by decide) (by decide)
    · rw [← e2, ← e4]; exact q this.pr (by decide) (by decide)
  · exact hx
theorem gr7 {w : World} {b : Nat} {t : TypeId} {v0 v1 v2 v3 v4 v5 v6 : Value} (h : Box w b t #[v0, v1, v2, v3, v4, v5, v6]) : w.cell? ⟨b, 0, none⟩ = some v0 ∧ w.cell? ⟨b, 1, none⟩ = some v1 ∧ w.cell? ⟨b, 2, none⟩ = some v2 ∧ w.cell? ⟨b, 3, none⟩ = some v3 ∧ w.cell? ⟨b, 4, none⟩ = some v4 ∧ w.cell? ⟨b, 5, none⟩ = some v5 ∧ w.cell? ⟨b, 6, none⟩ = some v6 ∧ b < w.heap.size ∧
    w.frozen? ⟨b, 0, none⟩ = false ∧ w.frozen? ⟨b, 1, none⟩ = false ∧ w.frozen? ⟨b, 2, none⟩ = false ∧ w.frozen? ⟨b, 3, none⟩ = false ∧ w.frozen? ⟨b, 4, none⟩ = false :=
  ⟨(h.cell 0).trans rfl, (h.cell 1).trans rfl, (h.cell 2).trans rfl, (h.cell 3).trans rfl, (h.cell 4).trans rfl, (h.cell 5).trans rfl, (h.cell 6).trans rfl, h.lt, h.frozen 0, h.frozen 1, h.frozen 2, h.frozen 3, h.frozen 4⟩
/-- One member's cells. -/
theorem GrIs.at_ (h : GrIs w B p v R G) {k : Nat} {x : MV} (hk : R[k]? = some x) : ∃ g c, v = .slice (some ⟨g, 0, none⟩) R.length c ∧ g < w.heap.size ∧ B ≤ g ∧ g ≠ p ∧ w.cell? ⟨g, k * 5, none⟩ = some (.int .i64 x.d.n) ∧ w.cell? ⟨g, k * 5 + 1, none⟩ = some x.tv ∧ w.cell? ⟨g, k * 5 + 2, none⟩ = some (.int .i64 x.d.u) ∧
    w.cell? ⟨g, k * 5 + 3, none⟩ = some (.bool x.d.j) ∧ w.cell? ⟨g, k * 5 + 4, none⟩ = some x.pv ∧ (∀ i, w.frozen? ⟨g, i, none⟩ = false) := by
  have hkl := (List.getElem?_eq_some_iff.1 hk).1
  obtain ⟨A, c, e⟩ := own_slice h.row
  have hr := h.row
  rw [e] at hr
  obtain ⟨g, rfl, hlt, hbg, _, hc⟩ := own_in hr (by omega)
  obtain ⟨m0, m1, m2, m3, m4⟩ := mvR_at hk
  refine ⟨g, c, e, hlt, hbg, fun e' => own_ne hr h.box (by decide) g rfl e', hc _ _ m0, hc _ _ m1, hc _ _ m2, hc _ _ m3, hc _ _ m4, fun i => hr.frozenAt i⟩
end
/-- A call on a group: what it gives, what the group is then. -/
def Wr (B p : Nat) (v : Value) (W : World) (G' : GD) (res : Value) (e : Ending) (w' : World) : Prop :=
  e = .returned res ∧ ∃ v' R', GrIs w' B p v' R' G' ∧ Off (GrS p v) W w' ∧ ∀ k, v'.ownBlock = some k → v.ownBlock = some k ∨ W.heap.size ≤ k
theorem Wr.mk {B p : Nat} {v v' : Value} {W w' : World} {R' : List MV} {G' : GD} {res : Value} (h : GrIs w' B p v' R' G') (ho : Off (GrS p v) W w') (hv : ∀ k, v'.ownBlock = some k → v.ownBlock = some k ∨ W.heap.size ≤ k) : Wr B p v W G' res (.returned res) w' := ⟨rfl, v', R', h, ho, hv⟩
/-- Two calls, one behind the other. -/
theorem Off.two {p : Nat} {v v' : Value} {W w w' : World} (h : Off (GrS p v) W w) (h' : Off (GrS p v') w w') (hv : ∀ k, v'.ownBlock = some k → v.ownBlock = some k ∨ W.heap.size ≤ k) : Off (GrS p v) W w' :=
  h.trans h' (fun i hi hs => by
    rcases hs with rfl | hs
    · exact .inl rfl
    · rcases hv i hs with e | e
      · exact .inr e
      · omega)
theorem own_two2 {v v' v'' : Value} {W w : World} (hsz : W.heap.size ≤ w.heap.size) (hv : ∀ k, v'.ownBlock = some k → v.ownBlock = some k ∨ W.heap.size ≤ k) (hv' : ∀ k, v''.ownBlock = some k → v'.ownBlock = some k ∨ w.heap.size ≤ k) : ∀ k, v''.ownBlock = some k → v.ownBlock = some k ∨ W.heap.size ≤ k := fun k hk => by
  rcases hv' k hk with e | e
  · exact hv k e
  · exact .inr (by omega)
end Go.Proofs.YtlokhhjhckiloaaGreat
