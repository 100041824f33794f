/- Merged texts. What each proves is told at its head. -/
import Derived.Test.YtjnphajkoopkgaaGreatDoorUP
import Derived.Test.YtjnphajkoopkgaaGreatDoorPGet
import Derived.Test.YtjnphajkoopkgaaGreatDoorUQ
import Derived.Maps.AppendAt
import Derived.Deep.RegionHeld3
/- The program's unpack: the numbers of a body. No condition but the body's length. -/
namespace Go.Proofs.YtjnphajkoopkgaaGreatDoor
open Go.RowKit
set_option linter.unusedVariables false
/-- So many numbers from the beginning on, the place behind them, an error. -/
def nrd (s : ByteArray) : Nat → List Int × Int × Int
  | 0 => ([], 0, 0)
  | k + 1 => if (nrd s k).2.2 ≠ 0 then nrd s k else ((nrd s k).1 ++ [(getG s (nrd s k).2.1).1], (getG s (nrd s k).2.1).2.1, (getG s (nrd s k).2.1).2.2)
/-- So many records from a place on. -/
def rrd (s : ByteArray) (q : Int) : Nat → List Rec × Int × Int
  | 0 => ([], q, 0)
  | k + 1 => if (rrd s q k).2.2 ≠ 0 then rrd s q k else
    if (decR s (rrd s q k).2.1).2.2 ≠ 0 then ((rrd s q k).1, (rrd s q k).2.1, (decR s (rrd s q k).2.1).2.2) else
    ((rrd s q k).1 ++ [(decR s (rrd s q k).2.1).1], (decR s (rrd s q k).2.1).2.1, 0)
theorem nrd_stop {s : ByteArray} {k : Nat} (h : (nrd s k).2.2 ≠ 0) : ∀ j, nrd s (k + j) = nrd s k
  | 0 => rfl
  | j + 1 => by
    show (if (nrd s (k + j)).2.2 ≠ 0 then _ else _) = _
    rw [if_pos (by rw [nrd_stop h j]; exact h)]
    exact nrd_stop h j
theorem rrd_stop {s : ByteArray} {q : Int} {k : Nat} (h : (rrd s q k).2.2 ≠ 0) : ∀ j, rrd s q (k + j) = rrd s q k
  | 0 => rfl
  | j + 1 => by
    show (if (rrd s q (k + j)).2.2 ≠ 0 then _ else _) = _
    rw [if_pos (by rw [rrd_stop h j]; exact h)]
    exact rrd_stop h j
def nbn (l : List Int) : BN := ⟨l.getD 0 0, l.getD 1 0, l.getD 2 0, l.getD 3 0, l.getD 4 0⟩
def zeroB : Array Value := #[.int .i64 0, .int .i64 0, .int .i64 0, .int .i64 0, .int .i64 0, .slice none 0 0]
structure UpAt (W : World) (bc : Array Value) (cn : Int) (wr : World) : Prop where
  res : Box wr W.heap.size 44 zeroB
  bat : Box wr (W.heap.size + 1) 44 bc
  cnt : Box wr (W.heap.size + 1 + 1) 3 #[.int .i64 cn]
  bel : Below W.heap.size W wr
def ptrsC (W : World) : Array Value := #[.pointer (some ⟨W.heap.size + 1, 0, none⟩), .pointer (some ⟨W.heap.size + 1, 1, none⟩), .pointer (some ⟨W.heap.size + 1, 2, none⟩), .pointer (some ⟨W.heap.size + 1, 3, none⟩), .pointer (some ⟨W.heap.size + 1, 4, none⟩), .pointer (some ⟨W.heap.size + 1 + 1, 0, none⟩)]
section
variable {W wr w' : World} {bc : Array Value} {cn : Int}
theorem UpAt.later (h : UpAt W bc cn wr) (hb : Below wr.heap.size wr w') : UpAt W bc cn w' :=
  ⟨h.res.later hb, h.bat.later hb, h.cnt.later hb, h.bel.trans (hb.mono h.bel.size)⟩
theorem UpAt.bset (h : UpAt W bc cn wr) (i : Nat) (u : Value) : UpAt W (bc.setIfInBounds i u) cn (wr.setCell ⟨W.heap.size + 1, i, none⟩ u) :=
  ⟨h.res.far (p := ⟨W.heap.size + 1, i, none⟩) (Nat.ne_of_lt (Nat.lt_succ_self _)) _, h.bat.set i u, h.cnt.far (p := ⟨W.heap.size + 1, i, none⟩) (Nat.ne_of_gt (Nat.lt_succ_self _)) _, h.bel.setCell (p := ⟨W.heap.size + 1, i, none⟩) (Nat.le_succ _) _⟩
theorem UpAt.cset (h : UpAt W bc cn wr) (n : Int) : UpAt W bc n (wr.setCell ⟨W.heap.size + 1 + 1, 0, none⟩ (.int .i64 n)) :=
  ⟨h.res.far (p := ⟨W.heap.size + 1 + 1, 0, none⟩) (Nat.ne_of_lt (Nat.lt_succ_of_lt (Nat.lt_succ_self _))) _, h.bat.far (p := ⟨W.heap.size + 1 + 1, 0, none⟩) (Nat.ne_of_lt (Nat.lt_succ_self _)) _, h.cnt.set 0 _, h.bel.setCell (p := ⟨W.heap.size + 1 + 1, 0, none⟩) (Nat.le_succ_of_le (Nat.le_succ _)) _⟩
end
/-- Where the k-th number goes. -/
theorem slot_of {W wr : World} {nums : List Int} {k : Nat} (hk : k < 6) (hl : nums.length = k) (h : UpAt W (bnC (nbn nums) (.slice none 0 0)) (nums.getD 5 0) wr) (hp : Box wr (W.heap.size + 1 + 1 + 1) 170 (ptrsC W)) :
    ∃ tb ti v0, wr.cell? ⟨W.heap.size + 1 + 1 + 1, k, none⟩ = some (.pointer (some ⟨tb, ti, none⟩)) ∧ wr.cell? ⟨tb, ti, none⟩ = some v0 ∧ v0.oneCell' = true ∧ wr.frozen? ⟨tb, ti, none⟩ = false ∧
      ∀ x, UpAt W (bnC (nbn (nums ++ [x])) (.slice none 0 0)) ((nums ++ [x]).getD 5 0) (wr.setCell ⟨tb, ti, none⟩ (.int .i64 x)) ∧ Box (wr.setCell ⟨tb, ti, none⟩ (.int .i64 x)) (W.heap.size + 1 + 1 + 1) 170 (ptrsC W) := by
  rcases nums with _ | ⟨a, _ | ⟨b, _ | ⟨c, _ | ⟨d, _ | ⟨e, _ | ⟨f, l⟩⟩⟩⟩⟩⟩
  · subst hl
    exact ⟨_, 0, _, (hp.cell 0).trans rfl, (h.bat.cell 0).trans rfl, rfl, h.bat.frozen 0, fun x => ⟨h.bset 0 _, hp.far (p := ⟨W.heap.size + 1, 0, none⟩) (by show W.heap.size + 1 + 1 + 1 ≠ W.heap.size + 1; omega) _⟩⟩
  · subst hl
    exact ⟨_, 1, _, (hp.cell 1).trans rfl, (h.bat.cell 1).trans rfl, rfl, h.bat.frozen 1, fun x => ⟨h.bset 1 _, hp.far (p := ⟨W.heap.size + 1, 1, none⟩) (by show W.heap.size + 1 + 1 + 1 ≠ W.heap.size + 1; omega) _⟩⟩
  · subst hl
    exact ⟨_, 2, _, (hp.cell 2).trans rfl, (h.bat.cell 2).trans rfl, rfl, h.bat.frozen 2, fun x => ⟨h.bset 2 _, hp.far (p := ⟨W.heap.size + 1, 2, none⟩) (by show W.heap.size + 1 + 1 + 1 ≠ W.heap.size + 1; omega) _⟩⟩
  · subst hl
    exact ⟨_, 3, _, (hp.cell 3).trans rfl, (h.bat.cell 3).trans rfl, rfl, h.bat.frozen 3, fun x => ⟨h.bset 3 _, hp.far (p := ⟨W.heap.size + 1, 3, none⟩) (by show W.heap.size + 1 + 1 + 1 ≠ W.heap.size + 1; omega) _⟩⟩
  · subst hl
    exact ⟨_, 4, _, (hp.cell 4).trans rfl, (h.bat.cell 4).trans rfl, rfl, h.bat.frozen 4, fun x => ⟨h.bset 4 _, hp.far (p := ⟨W.heap.size + 1, 4, none⟩) (by show W.heap.size + 1 + 1 + 1 ≠ W.heap.size + 1; omega) _⟩⟩
  · subst hl
    exact ⟨_, 0, _, (hp.cell 5).trans rfl, (h.cnt.cell 0).trans rfl, rfl, h.cnt.frozen 0, fun x => ⟨h.cset x, hp.far (p := ⟨W.heap.size + 1 + 1, 0, none⟩) (by show W.heap.size + 1 + 1 + 1 ≠ W.heap.size + 1 + 1; omega) _⟩⟩
  · simp at hl; omega
theorem unp_result {w : World} (g : Nat) {v0 v1 v2 v3 v4 v5 x : Value} (h : Box w g 44 #[v0, v1, v2, v3, v4, v5]) (tmps : Array Value) (ht : (tmps[2]?).getD undef = .pointer (some ⟨g, 0, none⟩)) (h3 : (tmps[3]?).getD undef = x) :
    (results Tryz.f84 tmps).run Tryz.prog w = .ok (.tuple #[.agg #[v0, v1, v2, v3, v4, v5], x]) w := by
  have c0 := (h.cell 0).trans (show _ = some v0 from rfl)
  have c1 := (h.cell 1).trans (show _ = some v1 from rfl)
  have c2 := (h.cell 2).trans (show _ = some v2 from rfl)
  have c3 := (h.cell 3).trans (show _ = some v3 from rfl)
  have c4 := (h.cell 4).trans (show _ = some v4 from rfl)
  have c5 := (h.cell 5).trans (show _ = some v5 from rfl)
  simp [results, Tryz.results84, go_sem, ht, h3, c0, c1, c2, c3, c4, c5]
end Go.Proofs.YtjnphajkoopkgaaGreatDoor
/- The program's unpack: records in new memory; the walk. No condition but the body's length. -/
namespace Go.Proofs.YtjnphajkoopkgaaGreatDoor
open Go.RowKit
set_option linter.unusedVariables false
def recsC (L : List RX) : List Value := L.flatMap fun x => (recC x.1 x.2.1 x.2.2).toList
theorem recsC_snoc (L : List RX) (x : RX) : recsC (L ++ [x]) = recsC L ++ (recC x.1 x.2.1 x.2.2).toList := by simp [recsC]
/-- Records in memory of the call's own. -/
structure RowR (w : World) (base : Nat) (v : Value) (L : List RX) : Prop where
 row : w.ownsRow base 85 7 v L.length (recsC L)
 heads : ∀ x ∈ L, w.ownsRow base 87 2 (.slice x.2.1 x.1.heads.length x.2.2) x.1.heads.length (headCells x.1.heads)
section
variable {w w' : World} {base : Nat} {v : Value} {L : List RX}
theorem RowR.nil (w : World) (base : Nat) : RowR w base (.slice none 0 0) [] := ⟨World.ownsRow_nil _ _ _ _, fun x hx => by cases hx⟩
theorem RowR.later (h : RowR w base v L) (hb : Below w.heap.size w w') : RowR w' base v L := ⟨own_below h.row hb, fun x hx => own_below (h.heads x hx) hb⟩
/-- A store into a block of another type. -/
theorem RowR.set {b t : Nat} {cs : Array Value} (h : RowR w base v L) (hb : Box w b t cs) (h1 : t ≠ 85) (h2 : t ≠ 87) (i : Nat) (u : Value) : RowR (w.setCell ⟨b, i, none⟩ u) base v L :=
 ⟨own_off h.row (Off.one w ⟨b, i, none⟩ u) (own_ne h.row hb h1), fun x hx => own_off (h.heads x hx) (Off.one w ⟨b, i, none⟩ u) (own_ne (h.heads x hx) hb h2)⟩
/-- Two rows of other types are two. -/
theorem own_two {b1 b2 n1 n2 z1 z2 : Nat} {t1 t2 : TypeId} {v1 v2 : Value} {x1 x2 : List Value} (h1 : w.ownsRow b1 t1 z1 v1 n1 x1) (h2 : w.ownsRow b2 t2 z2 v2 n2 x2) (hne : t1 ≠ t2) : v1.ownBlock = none ∨ v1.ownBlock ≠ v2.ownBlock := by
 rcases h1.2 with ⟨rfl, _⟩ | ⟨g, cap, cur, rfl, _, hg, _⟩
 ·
  exact .inl rfl
 ·
  refine .inr fun e => ?_
  rcases h2.2 with ⟨rfl, _⟩ | ⟨g2, cap2, cur2, rfl, _, hg2, _⟩
  ·
   cases e
  ·
   have : g = g2 := by simpa [Value.ownBlock] using e
   subst this
   rw [hg] at hg2
   injection hg2 with e2
   injection e2 with _ e3 _
   exact hne e3
theorem RowR.grow {v' : Value} {x : RX} (h : RowR w base v L) (hh : w.ownsRow base 87 2 (.slice x.2.1 x.1.heads.length x.2.2) x.1.heads.length (headCells x.1.heads))
  (ho : w'.ownsRow base 85 7 v' (L.length + 1) (recsC L ++ (recC x.1 x.2.1 x.2.2).toList)) (hg : w.grownBy w' v.ownBlock) : RowR w' base v' (L ++ [x]) := by
 refine ⟨by rw [recsC_snoc, List.length_append]; exact ho, fun y hy => ?_⟩
 rw [List.mem_append] at hy
 rcases hy with hy | hy
 ·
  exact (h.heads y hy).kept hg (own_two (h.heads y hy) h.row (by decide))
 ·
  simp at hy
  subst hy
  exact hh.kept hg (own_two hh h.row (by decide))
end
theorem news_at {w : World} {g : Nat} {t : TypeId} {cs : Array Value} (h : Box w g t cs) : ∀ j u, cs.toList[j]? = some u → w.cell? ((⟨g, 0, none⟩ : Addr).add j) = some u := by
 intro j u hu
 have e1 : (⟨g, 0, none⟩ : Addr).add j = ⟨g, j, none⟩ := by unfold Addr.add; split <;> simp_all
 rw [e1, h.cell j]
 simpa using hu
theorem recInfo : (Tryz.prog.info? 85).map (fun i => (i.zero, i.size, i.bytes)) = some (some (.agg #[.int .i64 0, .int .i64 0, .bool false, .string ⟨#[]⟩, .bool false, .string ⟨#[]⟩, .slice none 0 0]), 7, 88) := by kernel_rfl
theorem rec_one (r : Rec) (A : Option Addr) (c : Nat) : ∀ u ∈ (recC r A c).toList, u.oneCell' = true := by
 intro u hu
 unfold recC at hu
 simp at hu
 rcases hu with rfl | rfl | rfl | rfl | rfl | rfl | rfl <;> rfl
theorem rrd_len {s : ByteArray} {q : Int} : ∀ k, (rrd s q k).2.2 = 0 → (rrd s q k).1.length = k
 | 0, _ => rfl
 | k + 1, h => by
  unfold rrd at h ⊢
  split at h
  ·
   rename_i h1; exact absurd h h1
  ·
   rename_i h1
   rw [if_neg h1]
   split at h
   ·
    rename_i h2; exact absurd h h2
   ·
    rename_i h2
    rw [if_neg h2]
    have := rrd_len k (by simpa using h1)
    simp [this]
theorem nrd_len {s : ByteArray} : ∀ k, (nrd s k).2.2 = 0 → (nrd s k).1.length = k
 | 0, _ => rfl
 | k + 1, h => by
  unfold nrd at h ⊢
  split at h
  ·
   rename_i h1; exact absurd h h1
  ·
   rename_i h1
   rw [if_neg h1]
   have := nrd_len k (by simpa using h1)
   simp [this]
def placedR (span : Int) : Int → List Rec → Bool
 | _, [] => true
 | last, r :: l => decide (last < r.place) && decide (r.place < span) && placedR span r.place l
theorem placedL_map (span : Int) : ∀ (L : List RX) (last : Int), placedL span last L = placedR span last (L.map (·.1))
 | [], _ => rfl
 | x :: l, last => by
  show (_ && _ && placedL span x.1.place l) = _
  rw [placedL_map span l]
  rfl
def cntN (s : ByteArray) : Int := (nrd s 6).1.getD 5 0
def recN (s : ByteArray) : List Rec × Int × Int := rrd s (nrd s 6).2.1 (cntN s).toNat
/-- What unpack says of a body. -/
def unpB (s : ByteArray) : Bool :=
 decide ((nrd s 6).2.2 = 0) && (decide (0 ≤ cntN s ∧ cntN s ≤ 50) && (decide ((recN s).2.2 = 0) && (decide ((recN s).2.1 = (s.size : Int)) && (numB (nbn (nrd s 6).1) && placedR (nbn (nrd s 6).1).span (-1) (recN s).1))))
/-- What unpack leaves. -/
def GotUn (W : World) (ok : Bool) (b : BN) (R : List Rec) (en : Ending) (w' : World) : Prop :=
 ∃ (b' : BN) (A : Option Addr) (n c : Nat), en = .returned (.tuple #[.agg (bnC b' (.slice A n c)), .bool ok]) ∧ (ok = true → b' = b ∧ ∃ L : List RX, L.map (·.1) = R ∧ n = L.length ∧ RowR w' W.heap.size (.slice A n c) L) ∧ Below W.heap.size W w'
theorem GotUn.zero {W w' : World} {b : BN} {R : List Rec} (h : Below W.heap.size W w') : GotUn W false b R (.returned (.tuple #[.agg zeroB, .bool false])) w' :=
 ⟨⟨0, 0, 0, 0, 0⟩, none, 0, 0, rfl, (fun e => by cases e), h⟩
def bset (w : World) (g : Nat) (v0 v1 v2 v3 v4 v5 : Value) : World := (((((w.setCell ⟨g, 0, none⟩ v0).setCell ⟨g, 1, none⟩ v1).setCell ⟨g, 2, none⟩ v2).setCell ⟨g, 3, none⟩ v3).setCell ⟨g, 4, none⟩ v4).setCell ⟨g, 5, none⟩ v5
theorem bset_box {w : World} {g t : Nat} {z0 z1 z2 z3 z4 z5 : Value} (h : Box w g t #[z0, z1, z2, z3, z4, z5]) (v0 v1 v2 v3 v4 v5 : Value) : Box (bset w g v0 v1 v2 v3 v4 v5) g t #[v0, v1, v2, v3, v4, v5] := by
 unfold bset
 have h0 : Box _ g t #[v0, z1, z2, z3, z4, z5] := h.set 0 v0
 have h1 : Box _ g t #[v0, v1, z2, z3, z4, z5] := h0.set 1 v1
 have h2 : Box _ g t #[v0, v1, v2, z3, z4, z5] := h1.set 2 v2
 have h3 : Box _ g t #[v0, v1, v2, v3, z4, z5] := h2.set 3 v3
 have h4 : Box _ g t #[v0, v1, v2, v3, v4, z5] := h3.set 4 v4
 have h5 : Box _ g t #[v0, v1, v2, v3, v4, v5] := h4.set 5 v5
 exact h5
theorem bset_off (w : World) (g : Nat) (v0 v1 v2 v3 v4 v5 : Value) : Off (· = g) w (bset w g v0 v1 v2 v3 v4 v5) := by
 unfold bset
 have h0 := Off.refl (· = g) w
 have h1 := h0.set (p := ⟨g, 0, none⟩) (.inl rfl) v0
 have h2 := h1.set (p := ⟨g, 1, none⟩) (.inl rfl) v1
 have h3 := h2.set (p := ⟨g, 2, none⟩) (.inl rfl) v2
 have h4 := h3.set (p := ⟨g, 3, none⟩) (.inl rfl) v3
 have h5 := h4.set (p := ⟨g, 4, none⟩) (.inl rfl) v4
 have h6 := h5.set (p := ⟨g, 5, none⟩) (.inl rfl) v5
 exact h6
theorem box_six {w : World} {g t : Nat} {v0 v1 v2 v3 v4 v5 : Value} (h : Box w g t #[v0, v1, v2, v3, v4, v5]) : w.cell? ⟨g, 0, none⟩ = some v0 ∧ w.cell? ⟨g, 1, none⟩ = some v1 ∧ w.cell? ⟨g, 2, none⟩ = some v2 ∧ w.cell? ⟨g, 3, none⟩ = some v3 ∧ w.cell? ⟨g, 4, none⟩ = some v4 ∧ w.cell? ⟨g, 5, none⟩ = some v5 ∧
  w.frozen? ⟨g, 0, none⟩ = false ∧ w.frozen? ⟨g, 1, none⟩ = false ∧ w.frozen? ⟨g, 2, none⟩ = false ∧ w.frozen? ⟨g, 3, none⟩ = false ∧ w.frozen? ⟨g, 4, none⟩ = false ∧ w.frozen? ⟨g, 5, none⟩ = false :=
 ⟨by rw [h.cell]; rfl, by rw [h.cell]; rfl, by rw [h.cell]; rfl, by rw [h.cell]; rfl, by rw [h.cell]; rfl, by rw [h.cell]; rfl, h.frozen 0, h.frozen 1, h.frozen 2, h.frozen 3, h.frozen 4, h.frozen 5⟩
theorem below_off {W w w' : World} {g : Nat} (h : Below W.heap.size W w) (ho : Off (· = g) w w') (hg : W.heap.size ≤ g) : Below W.heap.size W w' := h.trans (ho.below h.size (fun k e => by rw [e]; exact hg))
theorem UpAt.grown {W w w' : World} {bc : Array Value} {cn : Int} {v : Value} {n : Nat} {xs : List Value} (h : UpAt W bc cn w) (ho : w.ownsRow W.heap.size 85 7 v n xs) (hg : w.grownBy w' v.ownBlock) : UpAt W bc cn w' := by
 have k : ∀ {b t : Nat} {cs : Array Value}, Box w b t cs → t ≠ 85 → Box w' b t cs := fun hb hne => (hg.block _ hb.lt (fun e => own_ne ho hb hne _ e.symm rfl)).trans hb
 exact ⟨k h.res (by decide), k h.bat (by decide), k h.cnt (by decide), h.bel.grown hg h.bel.size (fun j e => (ho.lt j e).1)⟩
theorem recsC_at : ∀ {L : List RX} {j i : Nat} {x : RX}, L[j]? = some x → i < 7 → (recsC L)[j * 7 + i]? = (recC x.1 x.2.1 x.2.2)[i]?
 | [], j, i, x, h, _ => by cases h
 | y :: l, 0, i, x, h, hi => by
  have e : y = x := by simpa using h
  subst e
  have hl : (recC y.1 y.2.1 y.2.2).toList.length = 7 := rfl
  show ((recC y.1 y.2.1 y.2.2).toList ++ recsC l)[0 * 7 + i]? = _
  rw [List.getElem?_append_left (by omega), Nat.zero_mul, Nat.zero_add, Array.getElem?_toList]
 | y :: l, j + 1, i, x, h, hi => by
  have hl : (recC y.1 y.2.1 y.2.2).toList.length = 7 := rfl
  show ((recC y.1 y.2.1 y.2.2).toList ++ recsC l)[(j + 1) * 7 + i]? = _
  rw [List.getElem?_append_right (by omega), hl, show (j + 1) * 7 + i - 7 = j * 7 + i by omega]
  exact recsC_at (by simpa using h) hi
structure UnS (W : World) (b : BN) (A : Option Addr) (c : Nat) (L : List RX) (w : World) : Prop where
 res : ∃ v0 v1 v2 v3 v4 v5, Box w W.heap.size 44 #[v0, v1, v2, v3, v4, v5]
 bat : Box w (W.heap.size + 1) 44 (bnC b (.slice A L.length c))
 row : RowR w W.heap.size (.slice A L.length c) L
 rin : RsIn w A L
 bel : Below W.heap.size W w
section
variable {W w w' : World} {base span prod epoch seq : Int} {A : Option Addr} {c : Nat} {L : List RX}
theorem UnS.cells (h : UnS W ⟨base, span, prod, epoch, seq⟩ A c L w) : (fun w => w.cell? ⟨W.heap.size + 1, 0, none⟩ = some (.int .i64 base) ∧ w.cell? ⟨W.heap.size + 1, 1, none⟩ = some (.int .i64 span) ∧ w.cell? ⟨W.heap.size + 1, 2, none⟩ = some (.int .i64 prod) ∧ w.cell? ⟨W.heap.size + 1, 3, none⟩ = some (.int .i64 epoch) ∧ w.cell? ⟨W.heap.size + 1, 4, none⟩ = some (.int .i64 seq) ∧ w.cell? ⟨W.heap.size + 1, 5, none⟩ = some (.slice A L.length c) ∧ UnS W ⟨base, span, prod, epoch, seq⟩ A c L w) w :=
 ⟨by rw [h.bat.cell]; rfl, by rw [h.bat.cell]; rfl, by rw [h.bat.cell]; rfl, by rw [h.bat.cell]; rfl, by rw [h.bat.cell]; rfl, by rw [h.bat.cell]; rfl, h⟩
theorem UnS.later (h : UnS W ⟨base, span, prod, epoch, seq⟩ A c L w) (hb : Below w.heap.size w w') : UnS W ⟨base, span, prod, epoch, seq⟩ A c L w' := by
 obtain ⟨v0, v1, v2, v3, v4, v5, hr⟩ := h.res
 exact ⟨⟨v0, v1, v2, v3, v4, v5, hr.later hb⟩, h.bat.later hb, h.row.later hb, h.rin.below hb, h.bel.trans (hb.mono h.bel.size)⟩
theorem un_later (h : (fun w => w.cell? ⟨W.heap.size + 1, 0, none⟩ = some (.int .i64 base) ∧ w.cell? ⟨W.heap.size + 1, 1, none⟩ = some (.int .i64 span) ∧ w.cell? ⟨W.heap.size + 1, 2, none⟩ = some (.int .i64 prod) ∧ w.cell? ⟨W.heap.size + 1, 3, none⟩ = some (.int .i64 epoch) ∧ w.cell? ⟨W.heap.size + 1, 4, none⟩ = some (.int .i64 seq) ∧ w.cell? ⟨W.heap.size + 1, 5, none⟩ = some (.slice A L.length c) ∧ UnS W ⟨base, span, prod, epoch, seq⟩ A c L w) w) (hb : Below w.heap.size w w') : (fun w => w.cell? ⟨W.heap.size + 1, 0, none⟩ = some (.int .i64 base) ∧ w.cell? ⟨W.heap.size + 1, 1, none⟩ = some (.int .i64 span) ∧ w.cell? ⟨W.heap.size + 1, 2, none⟩ = some (.int .i64 prod) ∧ w.cell? ⟨W.heap.size + 1, 3, none⟩ = some (.int .i64 epoch) ∧ w.cell? ⟨W.heap.size + 1, 4, none⟩ = some (.int .i64 seq) ∧ w.cell? ⟨W.heap.size + 1, 5, none⟩ = some (.slice A L.length c) ∧ UnS W ⟨base, span, prod, epoch, seq⟩ A c L w) w' := (h.2.2.2.2.2.2.later hb).cells
theorem RsIn.off {S : Nat → Prop} (h : RsIn w A L) (ho : Off S w w') (hs : ∀ g, A = some g → ¬ S g.block) (hh : ∀ x ∈ L, ∀ g, x.2.1 = some g → ¬ S g.block) : RsIn w' A L := fun hp => by
 obtain ⟨b, off, rfl, hlt, hc⟩ := h hp
 have hn := hs _ rfl
 refine ⟨b, off, rfl, Nat.lt_of_lt_of_le hlt ho.size, fun j x hx => ⟨?_, ?_⟩⟩
 ·
  obtain ⟨h0, h1, h2, h3, h4, h5, h6⟩ := (hc j x hx).1
  have k := fun i => ho.cell (p := ⟨b, i, none⟩) hlt hn
  exact ⟨(k _).trans h0, (k _).trans h1, (k _).trans h2, (k _).trans h3, (k _).trans h4, (k _).trans h5, (k _).trans h6⟩
 ·
  obtain ⟨a1, a2, a3, a4, a5⟩ := (hc j x hx).2
  refine ⟨fun hp => ?_, a2, a3, a4, a5⟩
  obtain ⟨g, o, e, hl, hcs⟩ := a1 hp
  have hn2 := hh x (List.mem_of_getElem? hx) _ e
  refine ⟨g, o, e, Nat.lt_of_lt_of_le hl ho.size, fun i y hy => ?_⟩
  have k := fun i => ho.cell (p := ⟨g, i, none⟩) hl hn2
  exact ⟨(k _).trans (hcs i y hy).1, (k _).trans (hcs i y hy).2⟩
theorem row_ne {base' n z cap len : Nat} {t t' : TypeId} {A : Option Addr} {xs : List Value} {cs : Array Value} {b : Nat} (h : w.ownsRow base' t z (.slice A len cap) n xs) (hb : Box w b t' cs) (hne : t' ≠ t) : ∀ g, A = some g → g.block ≠ b := by
 intro g hg
 subst hg
 have := own_ne h hb hne g.block
 rcases h.2 with ⟨hv, _⟩ | ⟨g2, cap2, cur, hv, _⟩
 ·
  cases hv
 ·
  injection hv with e1 _ _
  injection e1 with e1
  subst e1
  exact this rfl
theorem un_set (h : (fun w => w.cell? ⟨W.heap.size + 1, 0, none⟩ = some (.int .i64 base) ∧ w.cell? ⟨W.heap.size + 1, 1, none⟩ = some (.int .i64 span) ∧ w.cell? ⟨W.heap.size + 1, 2, none⟩ = some (.int .i64 prod) ∧ w.cell? ⟨W.heap.size + 1, 3, none⟩ = some (.int .i64 epoch) ∧ w.cell? ⟨W.heap.size + 1, 4, none⟩ = some (.int .i64 seq) ∧ w.cell? ⟨W.heap.size + 1, 5, none⟩ = some (.slice A L.length c) ∧ UnS W ⟨base, span, prod, epoch, seq⟩ A c L w) w) (v0 v1 v2 v3 v4 v5 : Value) : (fun w => w.cell? ⟨W.heap.size + 1, 0, none⟩ = some (.int .i64 base) ∧ w.cell? ⟨W.heap.size + 1, 1, none⟩ = some (.int .i64 span) ∧ w.cell? ⟨W.heap.size + 1, 2, none⟩ = some (.int .i64 prod) ∧ w.cell? ⟨W.heap.size + 1, 3, none⟩ = some (.int .i64 epoch) ∧ w.cell? ⟨W.heap.size + 1, 4, none⟩ = some (.int .i64 seq) ∧ w.cell? ⟨W.heap.size + 1, 5, none⟩ = some (.slice A L.length c) ∧ UnS W ⟨base, span, prod, epoch, seq⟩ A c L w) (bset w W.heap.size v0 v1 v2 v3 v4 v5) := by
 have hh := h.2.2.2.2.2.2
 obtain ⟨r0, r1, r2, r3, r4, r5, hr⟩ := hh.res
 have ho := bset_off w W.heap.size v0 v1 v2 v3 v4 v5
 refine UnS.cells ⟨⟨_, _, _, _, _, _, bset_box hr _ _ _ _ _ _⟩, hh.bat.off ho (by omega), ⟨own_off hh.row.row ho (fun k e => own_ne hh.row.row hr (by decide) k e), fun x hx => own_off (hh.row.heads x hx) ho (fun k e => own_ne (hh.row.heads x hx) hr (by decide) k e)⟩, ?_, below_off hh.bel ho (Nat.le_refl _)⟩
 exact hh.rin.off ho (row_ne hh.row.row hr (by decide)) (fun x hx => row_ne (hh.row.heads x hx) hr (by decide))
end
theorem decR_okR {s : ByteArray} {p : Int} (h : (decR s p).2.2 = 0) : okRec (decR s p).1 = true := by
 unfold decR at h ⊢
 split at h
 ·
  rename_i h1; exact absurd h h1
 ·
  rename_i h1
  rw [if_neg h1]
  split at h
  ·
   rename_i h2
   rw [if_pos h2]
   unfold rdRight at h2
   exact (Bool.and_eq_true_iff.1 h2).2
  ·
   simp at h
theorem rrd_ok {s : ByteArray} {q : Int} : ∀ k, ∀ r ∈ (rrd s q k).1, okRec r = true
 | 0, r, hr => by cases hr
 | k + 1, r, hr => by
  unfold rrd at hr
  split at hr
  ·
   exact rrd_ok k r hr
  ·
   split at hr
   ·
    exact rrd_ok k r hr
   ·
    rename_i h2
    rw [List.mem_append] at hr
    rcases hr with hr | hr
    ·
     exact rrd_ok k r hr
    ·
     simp at hr
     subst hr
     exact decR_okR (by simpa using h2)
theorem okRec_rin {w : World} {r : Rec} {A : Option Addr} {c : Nat} (h : okRec r = true) (hh : HIn w A r.heads) : RIn w r A c := by
 obtain ⟨_, ⟨k1, v1⟩, m1, ha⟩ := okRec_parts h
 refine ⟨hh, by omega, by omega, by omega, fun x hx => ?_⟩
 have := List.all_eq_true.1 ha x hx
 unfold okHead at this
 simp only [decide_eq_true_eq] at this
 omega
theorem RowR.rsin {w : World} {base c : Nat} {A : Option Addr} {L : List RX} (h : RowR w base (.slice A L.length c) L) (hok : ∀ x ∈ L, okRec x.1 = true) : RsIn w A L := fun hp => by
 have hrow := h.row
 rcases hrow.2 with ⟨hv, h0⟩ | ⟨g, cap, cur, hv, hg, hh, h4, h5, h6, h7⟩
 ·
  omega
 ·
  injection hv with e1 _ _
  refine ⟨g, 0, e1, lt_of_there hh, fun j x hx => ?_⟩
  have hj : j < L.length := (List.getElem?_eq_some_iff.1 hx).1
  have k : ∀ i, i < 7 → w.cell? ⟨g, 0 + j * 7 + i, none⟩ = (recsC L)[j * 7 + i]? := fun i hi => by
   subst e1
   have := hrow.cellAt (j * 7 + i) (by omega)
   rw [show 0 + j * 7 + i = j * 7 + i by omega]
   exact this
  have k2 : ∀ i, i < 7 → (recsC L)[j * 7 + i]? = (recC x.1 x.2.1 x.2.2)[i]? := fun i hi => recsC_at hx hi
  have hokx := hok x (List.mem_of_getElem? hx)
  refine ⟨⟨?_, ?_, ?_, ?_, ?_, ?_, ?_⟩, okRec_rin hokx (hin_of_own (h.heads x (List.mem_of_getElem? hx)))⟩
  ·
   exact (k 0 (by decide)).trans ((k2 0 (by decide)).trans rfl)
  ·
   exact (k 1 (by decide)).trans ((k2 1 (by decide)).trans rfl)
  ·
   exact (k 2 (by decide)).trans ((k2 2 (by decide)).trans rfl)
  ·
   exact (k 3 (by decide)).trans ((k2 3 (by decide)).trans rfl)
  ·
   exact (k 4 (by decide)).trans ((k2 4 (by decide)).trans rfl)
  ·
   exact (k 5 (by decide)).trans ((k2 5 (by decide)).trans rfl)
  ·
   exact (k 6 (by decide)).trans ((k2 6 (by decide)).trans rfl)
theorem recC_zero : (Value.agg #[.int .i64 0, .int .i64 0, .bool false, .string ⟨#[]⟩, .bool false, .string ⟨#[]⟩, .slice none 0 0]).cells.size = 7 := rfl
set_option maxHeartbeats 16000000 in
set_option maxRecDepth 100000 in
theorem unpack_c (s : ByteArray) (W : World) (hs : s.size ≤ 140737488351232) : Calls Tryz.prog 84 #[.string s] W (GotUn W (unpB s) (nbn (nrd s 6).1) (recN s).1) := by
 obtain ⟨W0, hW0⟩ : ∃ w, (((W.alloc (.cells zeroB 44)).alloc (.cells zeroB 44)).alloc (.cells #[.int .i64 0] 3)).alloc (.cells (ptrsC W) 170) = w := ⟨_, rfl⟩
 have hU : UpAt W zeroB 0 W0 := by
  rw [← hW0]
  refine ⟨?_, ?_, ?_, ((((Below.refl _ W).alloc (Nat.le_refl _) _).alloc (by simp) _).alloc (by simp; omega) _).alloc (by simp; omega) _⟩
  ·
   exact (((Box.new W 44 zeroB).alloc _).alloc _).alloc _
  ·
   have := Box.new (W.alloc (.cells zeroB 44)) 44 zeroB
   rw [World.size_alloc] at this
   exact (this.alloc _).alloc _
  ·
   have := Box.new ((W.alloc (.cells zeroB 44)).alloc (.cells zeroB 44)) 3 #[.int .i64 0]
   rw [World.size_alloc, World.size_alloc] at this
   exact this.alloc _
 have hP : Box W0 (W.heap.size + 1 + 1 + 1) 170 (ptrsC W) := by
  rw [← hW0]
  have := Box.new (((W.alloc (.cells zeroB 44)).alloc (.cells zeroB 44)).alloc (.cells #[.int .i64 0] 3)) 170 (ptrsC W)
  rwa [World.size_alloc, World.size_alloc, World.size_alloc] at this
 have H0 := Lib.hid (And.intro hU hP)
 clear hU hP
 obtain ⟨ok, hok⟩ : ∃ b, unpB s = b := ⟨_, rfl⟩
 have HOK := Lib.hid hok
 rw [hok]
 clear hok
 obtain ⟨BF, hBF⟩ : ∃ b, nbn (nrd s 6).1 = b := ⟨_, rfl⟩
 obtain ⟨RF, hRF⟩ : ∃ b, (recN s).1 = b := ⟨_, rfl⟩
 have HF := Lib.hid (And.intro hBF hRF)
 rw [hBF, hRF]
 clear hBF hRF
 unfold zeroB ptrsC at hW0
 go_enter Tryz.func84, Tryz.ntmps84
 go_wp2_with fail
 clear hW0
 go_loopw [6, 20] (fun q i wr => ∃ k : Nat, i = .int .i64 k ∧ k ≤ 6 ∧ (nrd s k).2.2 = 0 ∧ q = .int .i64 (nrd s k).2.1 ∧ UpAt W (bnC (nbn (nrd s k).1) (.slice none 0 0)) ((nrd s k).1.getD 5 0) wr ∧ Box wr (W.heap.size + 1 + 1 + 1) 170 (ptrsC W)) (fun _ i _ => 6 - (intOf i).toNat)
 case atStart => exact ⟨0, rfl, by decide, rfl, rfl, H0.out.1, H0.out.2⟩
 case round =>
  obtain ⟨k, rfl, hk6, he0, rfl, hU, hP⟩ := hrel
  clear H0
  by_cases hk : k < 6
  ·
   obtain ⟨tb, ti, v0, p1, p2, p3, p4, p5⟩ := slot_of hk (nrd_len k he0) hU hP
   have cg := fun w => get_c s (nrd s k).2.1 w (by omega)
   have hsuc : nrd s (k + 1) = ((nrd s k).1 ++ [(getG s (nrd s k).2.1).1], (getG s (nrd s k).2.1).2.1, (getG s (nrd s k).2.1).2.2) := by
    show (if (nrd s k).2.2 ≠ 0 then _ else _) = _
    rw [if_neg (by simpa using he0)]
   have HS := Lib.hid hsuc
   have HP5 := Lib.hid p5
   have hki : (k : Int) < 6 := by omega
   unfold Tri at cg
   obtain ⟨x, hx⟩ : ∃ x, (getG s (nrd s k).2.1).1 = x := ⟨_, rfl⟩
   obtain ⟨q2, hq2⟩ : ∃ x, (getG s (nrd s k).2.1).2.1 = x := ⟨_, rfl⟩
   obtain ⟨e2, he2⟩ : ∃ x, (getG s (nrd s k).2.1).2.2 = x := ⟨_, rfl⟩
   rw [hx, hq2, he2] at cg HS
   clear hx hq2 he2 hsuc p5 hU hP
   by_cases hee : e2 = 0
   ·
    subst hee
    go_wp2_with fail
    (with_reducible refine (cg _).mono ?_)
    rintro e w1 ⟨rfl, rfl⟩
    have HX := Lib.hid (HP5.out x)
    clear HP5 cg
    go_wp2
    go_roundw
    case rel => exact ⟨k + 1, by go_num, hk, by rw [HS.out], by rw [HS.out], by rw [HS.out]; exact HX.out.1, HX.out.2⟩
    case measure => simp [intOf]; omega
   ·
    have hee' : (e2 == 0) = false := by rw [beq_eq_false_iff_ne]; exact hee
    have hee2 : (e2 != 0) = true := by simpa using hee
    have hbad : ok = false := by
     rw [← HOK.out]
     unfold unpB
     have h6 : nrd s 6 = nrd s (k + 1) := by
      have := nrd_stop (s := s) (k := k + 1) (by rw [HS.out]; exact hee) (6 - (k + 1))
      rw [← this]
      congr 1
      omega
     rw [h6, HS.out, decide_eq_false hee]
     rfl
    subst hbad
    clear hee
    go_wp2_with fail
    (with_reducible refine (cg _).mono ?_)
    rintro e w1 ⟨rfl, rfl⟩
    have HX := Lib.hid (HP5.out x)
    clear HP5 cg
    have hbz := (HX.out.1.res : Box _ _ _ #[.int .i64 0, .int .i64 0, .int .i64 0, .int .i64 0, .int .i64 0, .slice none 0 0])
    obtain ⟨y0, y1, y2, y3, y4, y5, f0, f1, f2, f3, f4, f5⟩ := box_six hbz
    clear hbz
    go_wp2_with fail
    refine bodyPost_ret (v := .tuple #[.agg #[.int .i64 0, .int .i64 0, .int .i64 0, .int .i64 0, .int .i64 0, .slice none 0 0], .bool false]) ?_ rfl ?_
    ·
     exact unp_result W.heap.size (bset_box (show Box _ _ _ #[.int .i64 0, .int .i64 0, .int .i64 0, .int .i64 0, .int .i64 0, .slice none 0 0] from HX.out.1.res) _ _ _ _ _ _) _ rfl rfl
    ·
     exact GotUn.zero (below_off HX.out.1.bel (bset_off _ _ _ _ _ _ _ _) (Nat.le_refl _))
  ·
   obtain rfl : k = 6 := by omega
   have hlen := nrd_len 6 he0
   have HE := Lib.hid (show unpB s = (decide (0 ≤ cntN s ∧ cntN s ≤ 50) && (decide ((recN s).2.2 = 0) && (decide ((recN s).2.1 = (s.size : Int)) && (numB (nbn (nrd s 6).1) && placedR (nbn (nrd s 6).1).span (-1) (recN s).1)))) by unfold unpB; rw [decide_eq_true he0]; rfl)
   have HU := Lib.hid hU
   have hcn : (nrd s 6).1.getD 5 0 = cntN s := rfl
   rw [hcn] at HU
   have hrn : recN s = rrd s (nrd s 6).2.1 (cntN s).toNat := rfl
   have HRN := Lib.hid hrn
   rw [HF.out.1] at HU HE
   clear hU hP he0 hlen hcn hrn hk hk6
   generalize (nrd s 6).2.1 = q0 at *
   generalize cntN s = n at *
   have yc := (HU.out.cnt.cell 0).trans rfl
   simp only [List.getElem?_toArray, List.getElem?_cons_zero] at yc
   have hbz := (HU.out.res : Box _ _ _ #[.int .i64 0, .int .i64 0, .int .i64 0, .int .i64 0, .int .i64 0, .slice none 0 0])
   obtain ⟨y0, y1, y2, y3, y4, y5, f0, f1, f2, f3, f4, f5⟩ := box_six hbz
   clear hbz
   by_cases hn0 : n < 0
   ·
    have hbad : ok = false := by rw [← HOK.out, HE.out, decide_eq_false (by omega)]; rfl
    subst hbad
    go_wp2_with fail
    refine bodyPost_ret (v := .tuple #[.agg #[.int .i64 0, .int .i64 0, .int .i64 0, .int .i64 0, .int .i64 0, .slice none 0 0], .bool false]) ?_ rfl ?_
    ·
     exact unp_result W.heap.size (bset_box (show Box _ _ _ #[.int .i64 0, .int .i64 0, .int .i64 0, .int .i64 0, .int .i64 0, .slice none 0 0] from HU.out.res) _ _ _ _ _ _) _ rfl rfl
    ·
     exact GotUn.zero (below_off HU.out.bel (bset_off _ _ _ _ _ _ _ _) (Nat.le_refl _))
   ·
    by_cases hn1 : 50 < n
    ·
     have hbad : ok = false := by rw [← HOK.out, HE.out, decide_eq_false (by omega)]; rfl
     subst hbad
     go_wp2_with fail
     refine bodyPost_ret (v := .tuple #[.agg #[.int .i64 0, .int .i64 0, .int .i64 0, .int .i64 0, .int .i64 0, .slice none 0 0], .bool false]) ?_ rfl ?_
     ·
      exact unp_result W.heap.size (bset_box (show Box _ _ _ #[.int .i64 0, .int .i64 0, .int .i64 0, .int .i64 0, .int .i64 0, .slice none 0 0] from HU.out.res) _ _ _ _ _ _) _ rfl rfl
     ·
      exact GotUn.zero (below_off HU.out.bel (bset_off _ _ _ _ _ _ _ _) (Nat.le_refl _))
    ·
     obtain ⟨m, rfl⟩ : ∃ m : Nat, n = m := ⟨n.toNat, by omega⟩
     rw [decide_eq_true (by omega), Bool.true_and] at HE
     rw [Int.toNat_natCast] at HRN
     clear y0 y1 y2 y3 y4 y5 f0 f1 f2 f3 f4 f5
     obtain ⟨i0, hq, hqz, hqs, hqb⟩ := info_parts recInfo
     go_wp2_with fail
     go_loopw [6, 45] (fun q i wr => ∃ (k : Nat) (L : List RX) (A : Option Addr) (c : Nat), i = .int .i64 k ∧ k ≤ m ∧ (rrd s q0 k).2.2 = 0 ∧ q = .int .i64 (rrd s q0 k).2.1 ∧ L.map (·.1) = (rrd s q0 k).1 ∧ UpAt W (bnC BF (.slice A L.length c)) (m : Int) wr ∧ RowR wr W.heap.size (.slice A L.length c) L) (fun _ i _ => m - (intOf i).toNat)
     case atStart => exact ⟨0, [], none, 0, rfl, Nat.zero_le _, rfl, rfl, rfl, HU.out, RowR.nil _ _⟩
     case round =>
      obtain ⟨k, L, A, c, rfl, hkm, he0, rfl, hLm, hV, hR⟩ := hrel
      have hLk : L.length = k := by rw [← rrd_len k he0, ← hLm, List.length_map]
      clear HU yc
      by_cases hk : k < m
      ·
       have hsuc : rrd s q0 (k + 1) = if (decR s (rrd s q0 k).2.1).2.2 ≠ 0 then ((rrd s q0 k).1, (rrd s q0 k).2.1, (decR s (rrd s q0 k).2.1).2.2) else ((rrd s q0 k).1 ++ [(decR s (rrd s q0 k).2.1).1], (decR s (rrd s q0 k).2.1).2.1, 0) := by
        show (if (rrd s q0 k).2.2 ≠ 0 then _ else _) = _
        rw [if_neg (by simpa using he0)]
       have cd := fun w => pdec_c s (rrd s q0 k).2.1 w (by omega)
       obtain ⟨r, hr⟩ : ∃ x, (decR s (rrd s q0 k).2.1).1 = x := ⟨_, rfl⟩
       obtain ⟨q2, hq2⟩ : ∃ x, (decR s (rrd s q0 k).2.1).2.1 = x := ⟨_, rfl⟩
       obtain ⟨e2, he2⟩ : ∃ x, (decR s (rrd s q0 k).2.1).2.2 = x := ⟨_, rfl⟩
       rw [hr, hq2, he2] at hsuc
       rw [hr, hq2, he2] at cd
       have HS := Lib.hid hsuc
       have HV := Lib.hid (And.intro hV hR)
       have HLM := Lib.hid (And.intro hLm hLk)
       have hki : (k : Int) < (m : Int) := by omega
       have hL50 : L.length ≤ 50 := by omega
       clear hsuc hr hq2 he2 hV hR hLm hLk he0
       obtain ⟨place, time, bare, key, gone, value, heads⟩ := r
       unfold GotDec recV recC at cd
       simp only at cd
       by_cases hee : e2 = 0
       ·
        subst hee
        go_wp2_with fail
        (with_reducible refine (cd _).mono ?_)
        rintro en w1 ⟨A1, c1, rfl, hh, hb1⟩
        have HV1 := Lib.hid (And.intro (HV.out.1.later hb1) (HV.out.2.later hb1))
        have HH := Lib.hid (own_base hh HV.out.1.bel.size)
        clear hh hb1 HV cd
        have hal1 : Below w1.heap.size w1 (w1.alloc (.cells #[.int .i64 place, .int .i64 time, .bool bare, .string key, .bool gone, .string value, .slice A1 heads.length c1] 85)) := (Below.refl _ _).alloc (Nat.le_refl _) _
        have hal2 : Below w1.heap.size w1 ((w1.alloc (.cells #[.int .i64 place, .int .i64 time, .bool bare, .string key, .bool gone, .string value, .slice A1 heads.length c1] 85)).alloc (.cells #[.int .i64 place, .int .i64 time, .bool bare, .string key, .bool gone, .string value, .slice A1 heads.length c1] 85)) := hal1.alloc hal1.size _
        have y5 := ((HV1.out.1.later hal1).bat.cell 5).trans rfl
        unfold bnC at y5
        simp only [List.getElem?_toArray, List.getElem?_cons_zero, List.getElem?_cons_succ] at y5
        have HV2 := Lib.hid (And.intro (HV1.out.1.later hal2) (And.intro (HV1.out.2.later hal2) (own_below HH.out hal2)))
        have hrow := HV2.out.2.1.row
        have hbn := (by
         have := Box.new (w1.alloc (.cells #[.int .i64 place, .int .i64 time, .bool bare, .string key, .bool gone, .string value, .slice A1 heads.length c1] 85)) 85 (recC ⟨place, time, bare, key, gone, value, heads⟩ A1 c1)
         rw [World.size_alloc] at this
         exact this : Box ((w1.alloc (.cells #[.int .i64 place, .int .i64 time, .bool bare, .string key, .bool gone, .string value, .slice A1 heads.length c1] 85)).alloc (.cells (recC ⟨place, time, bare, key, gone, value, heads⟩ A1 c1) 85)) (w1.heap.size + 1) 85 (recC ⟨place, time, bare, key, gone, value, heads⟩ A1 c1))
        have hnews := news_at hbn
        have hone := rec_one ⟨place, time, bare, key, gone, value, heads⟩ A1 c1
        have hsz2 := HV2.out.1.bel.size
        unfold recC at hnews hone
        simp only at hnews hone
        have HNW := Lib.hid (And.intro hnews hone)
        clear hal1 hal2 hbn hnews hone HV1 HH
        go_wp2_with (at_builtin; refine wpList_append_own_at _ rfl _ _ 42 rfl W.heap.size 85 i0 _ 7 88 Tryz.underlying42 hq hqz hqs hqb recC_zero (by decide) (.slice A L.length c) L.length (recsC L) rfl hrow ⟨w1.heap.size + 1, 0, none⟩ 1 1 [.int .i64 place, .int .i64 time, .bool bare, .string key, .bool gone, .string value, .slice A1 heads.length c1] rfl rfl HNW.out.1 HNW.out.2 (by unfold maxLen; omega) (by omega) hsz2 ?_)
        intro v' w2 hown' hgrow _ _
        obtain ⟨g', cap', rfl⟩ : ∃ g' cap', v' = .slice (some ⟨g', 0, none⟩) (L.length + 1) cap' := by
         rcases hown'.2 with ⟨_, h0⟩ | ⟨g, cap, cur, hv, _⟩
         ·
          omega
         ·
          exact ⟨g, cap, hv⟩
        have HU2 := Lib.hid (HV2.out.1.grown hrow hgrow)
        have HR2 := Lib.hid (HV2.out.2.1.grow (x := (⟨place, time, bare, key, gone, value, heads⟩, A1, c1)) HV2.out.2.2 hown' hgrow)
        have z5 := (HU2.out.bat.cell 5).trans rfl
        unfold bnC at z5
        simp only [List.getElem?_toArray, List.getElem?_cons_zero, List.getElem?_cons_succ] at z5
        have hfr := HU2.out.bat.frozen 5
        have HU3 := Lib.hid (HU2.out.bset 5 (.slice (some ⟨g', 0, none⟩) (L.length + 1) cap'))
        have HR3 := Lib.hid (HR2.out.set HU2.out.bat (by decide) (by decide) 5 (.slice (some ⟨g', 0, none⟩) (L.length + 1) cap'))
        clear hown' hgrow hrow y5
        go_wp2
        go_roundw
        case rel =>
         refine ⟨k + 1, L ++ [(⟨place, time, bare, key, gone, value, heads⟩, A1, c1)], some ⟨g', 0, none⟩, cap', by go_num, hk, ?_, ?_, ?_, ?_, ?_⟩
         ·
          rw [HS.out, if_neg (by simp)]
         ·
          rw [HS.out, if_neg (by simp)]
         ·
          rw [HS.out, if_neg (by simp), List.map_append, HLM.out.1]; rfl
         ·
          rw [List.length_append]; exact HU3.out
         ·
          rw [List.length_append]; exact HR3.out
        case measure => simp [intOf]; omega
       ·
        have hee' : (e2 == 0) = false := by rw [beq_eq_false_iff_ne]; exact hee
        have hee2 : (e2 != 0) = true := by simpa using hee
        have hbad : ok = false := by
         rw [← HOK.out, HE.out, HRN.out]
         have h6 : rrd s q0 m = rrd s q0 (k + 1) := by
          have := rrd_stop (s := s) (q := q0) (k := k + 1) (by rw [HS.out, if_pos hee]; exact hee) (m - (k + 1))
          rw [← this]
          congr 1
          omega
         rw [h6, HS.out, if_pos hee, decide_eq_false hee]
         rfl
        subst hbad
        clear hee
        go_wp2_with fail
        (with_reducible refine (cd _).mono ?_)
        rintro en w1 ⟨A1, c1, rfl, hh, hb1⟩
        have HV1 := Lib.hid ((HV.out.1.later hb1).later ((Below.refl _ _).alloc (Nat.le_refl _) (.cells #[.int .i64 place, .int .i64 time, .bool bare, .string key, .bool gone, .string value, .slice A1 heads.length c1] 85)))
        clear hh hb1 HV cd
        have hbz := (HV1.out.res : Box _ _ _ #[.int .i64 0, .int .i64 0, .int .i64 0, .int .i64 0, .int .i64 0, .slice none 0 0])
        obtain ⟨y0, y1, y2, y3, y4, y5, f0, f1, f2, f3, f4, f5⟩ := box_six hbz
        clear hbz
        go_wp2_with fail
        refine bodyPost_ret (v := .tuple #[.agg #[.int .i64 0, .int .i64 0, .int .i64 0, .int .i64 0, .int .i64 0, .slice none 0 0], .bool false]) ?_ rfl ?_
        ·
         exact unp_result W.heap.size (bset_box (show Box _ _ _ #[.int .i64 0, .int .i64 0, .int .i64 0, .int .i64 0, .int .i64 0, .slice none 0 0] from HV1.out.res) _ _ _ _ _ _) _ rfl rfl
        ·
         exact GotUn.zero (below_off HV1.out.bel (bset_off _ _ _ _ _ _ _ _) (Nat.le_refl _))
      ·
       obtain rfl : k = m := by omega
       have HE2 : Hid (unpB s = (decide ((rrd s q0 k).2.1 = (s.size : Int)) && (numB BF && plB BF.span L))) := Lib.hid (by
        rw [HE.out, HRN.out, decide_eq_true he0, Bool.true_and, ← hLm, ← placedL_map]
        unfold plB
        rw [decide_eq_true (by omega : L.length ≤ 50), Bool.true_and])
       have HRF : Hid (L.map (·.1) = RF) := Lib.hid (by rw [hLm, ← HRN.out]; exact HF.out.2)
       have HV := Lib.hid (And.intro hV hR)
       have hL50 : L.length ≤ 50 := by omega
       have HOKR := Lib.hid (show ∀ r ∈ L.map (·.1), okRec r = true by rw [hLm]; exact rrd_ok k)
       clear HE HRN HF hLm hLk he0 hV hR hq hqz hqs hqb
       generalize (rrd s q0 k).2.1 = q at *
       rw [HE2.out] at HOK
       have c1 := fun w => numbered_c BF (.slice A L.length c) w
       have c2 := fun w hw => placed_c BF A c L w hw (by omega)
       have hokL : ∀ x ∈ L, okRec x.1 = true := fun x hx => HOKR.out x.1 (List.mem_map.2 ⟨x, hx, rfl⟩)
       have HS0 : Hid (UnS W BF A c L wr) := Lib.hid ⟨⟨_, _, _, _, _, _, HV.out.1.res⟩, HV.out.1.bat, HV.out.2, HV.out.2.rsin hokL, HV.out.1.bel⟩
       obtain ⟨base, span, prod, epoch, seq⟩ := BF
       have hS0 := (HS0.out.later ((Below.refl _ _).drew)).cells
       unfold bnC at c1 c2
       simp only at c1 c2
       clear hokL HOKR HV
       go_wp2_with fail
       by_cases hq : q = (s.size : Int)
       ·
        subst hq
        rw [decide_eq_true rfl, Bool.true_and] at HOK
        cases hnb : numB ⟨base, span, prod, epoch, seq⟩ with
        | false =>
         rw [hnb] at c1 HOK
         have hok : ok = false := by rw [← HOK.out]; rfl
         subst hok
         clear hnb
         refine wp_region_held_drew (S := (fun w => w.cell? ⟨W.heap.size + 1, 0, none⟩ = some (.int .i64 base) ∧ w.cell? ⟨W.heap.size + 1, 1, none⟩ = some (.int .i64 span) ∧ w.cell? ⟨W.heap.size + 1, 2, none⟩ = some (.int .i64 prod) ∧ w.cell? ⟨W.heap.size + 1, 3, none⟩ = some (.int .i64 epoch) ∧ w.cell? ⟨W.heap.size + 1, 4, none⟩ = some (.int .i64 seq) ∧ w.cell? ⟨W.heap.size + 1, 5, none⟩ = some (.slice A L.length c) ∧ UnS W ⟨base, span, prod, epoch, seq⟩ A c L w)) (by kernel_rfl) hS0 (fun hHeld => ?_)
         refine takeW (i := 0) (v := ?v1) rfl (by kernel_rfl) (by kernel_rfl) (by kernel_rfl) (fun _ _ _ h => h) (by kernel_rfl) hHeld ?hy1 ?rest1
         case hy1 => (intro w hSw; (try dsimp only at hSw); go_simp; (try with_reducible rfl))
         try simp only [Act.put, List.setIfInBounds_toArray, List.set_cons_zero, List.set_cons_succ]
         refine takeW (i := 1) (v := ?v2) rfl (by kernel_rfl) (by kernel_rfl) (by kernel_rfl) (fun _ _ _ h => h) (by kernel_rfl) hHeld ?hy2 ?rest2
         case hy2 => (intro w hSw; (try dsimp only at hSw); go_simp; (try with_reducible rfl))
         try simp only [Act.put, List.setIfInBounds_toArray, List.set_cons_zero, List.set_cons_succ]
         refine takeW (i := 2) (v := ?v3) rfl (by kernel_rfl) (by kernel_rfl) (by kernel_rfl) (fun _ _ _ h => h) (by kernel_rfl) hHeld ?hy3 ?rest3
         case hy3 => (intro w hSw; (try dsimp only at hSw); go_simp; (try with_reducible rfl))
         try simp only [Act.put, List.setIfInBounds_toArray, List.set_cons_zero, List.set_cons_succ]
         refine takeW (i := 3) (v := ?v4) rfl (by kernel_rfl) (by kernel_rfl) (by kernel_rfl) (fun _ _ _ h => h) (by kernel_rfl) hHeld ?hy4 ?rest4
         case hy4 => (intro w hSw; (try dsimp only at hSw); go_simp; (try with_reducible rfl))
         try simp only [Act.put, List.setIfInBounds_toArray, List.set_cons_zero, List.set_cons_succ]
         refine takeW (i := 4) (v := ?v5) rfl (by kernel_rfl) (by kernel_rfl) (by kernel_rfl) (fun _ _ _ h => h) (by kernel_rfl) hHeld ?hy5 ?rest5
         case hy5 => (intro w hSw; (try dsimp only at hSw); go_simp; (try with_reducible rfl))
         try simp only [Act.put, List.setIfInBounds_toArray, List.set_cons_zero, List.set_cons_succ]
         refine takeW (i := 5) (v := ?v6) rfl (by kernel_rfl) (by kernel_rfl) (by kernel_rfl) (fun _ _ _ h => h) (by kernel_rfl) hHeld ?hy6 ?rest6
         case hy6 => (intro w hSw; (try dsimp only at hSw); go_simp; (try with_reducible rfl))
         try simp only [Act.put, List.setIfInBounds_toArray, List.set_cons_zero, List.set_cons_succ]
         refine takeW (i := 6) (v := ?v7) rfl (by kernel_rfl) (by kernel_rfl) (by kernel_rfl) (fun _ _ _ h => h) (by kernel_rfl) hHeld ?hy7 ?rest7
         case hy7 => (intro w hSw; (try dsimp only at hSw); go_simp; (try with_reducible rfl))
         try simp only [Act.put, List.setIfInBounds_toArray, List.set_cons_zero, List.set_cons_succ]
         refine wpAnyH_ready (rs := [7]) (by kernel_rfl) (by simp) ?_
         refine consL rfl (by kernel_rfl) (fun K hK => ?_) AllReadyH.nil
         go_simp
         (with_reducible refine (c1 _).mono ?_)
         rintro e w6 ⟨rfl, hb2⟩
         refine hK.out _ _ (un_later hHeld hb2) (fun hHeld => ?_)
         clear hK K hb2
         try simp only [Act.put, List.setIfInBounds_toArray, List.set_cons_zero, List.set_cons_succ]
         refine takeW (i := 8) (v := ?v8) rfl (by kernel_rfl) (by kernel_rfl) (by kernel_rfl) (fun _ _ _ h => h) (by kernel_rfl) hHeld ?hy8 ?rest8
         case hy8 => (intro w hSw; (try dsimp only at hSw); go_simp; (try with_reducible rfl))
         try simp only [Act.put, List.setIfInBounds_toArray, List.set_cons_zero, List.set_cons_succ]
         refine takeW (i := 9) (v := ?v9) rfl (by kernel_rfl) (by kernel_rfl) (by kernel_rfl) (fun _ _ _ h => h) (by kernel_rfl) hHeld ?hy9 ?rest9
         case hy9 => (intro w hSw; (try dsimp only at hSw); go_simp; (try with_reducible rfl))
         try simp only [Act.put, List.setIfInBounds_toArray, List.set_cons_zero, List.set_cons_succ]
         refine takeU (i := 10) rfl (by kernel_rfl) (by kernel_rfl) (by kernel_rfl) (fun _ _ _ h => h) (by kernel_rfl) hHeld ?_
         try simp only [Act.put, List.setIfInBounds_toArray, List.set_cons_zero, List.set_cons_succ]
         refine takeU (i := 11) rfl (by kernel_rfl) (by kernel_rfl) (by kernel_rfl) (fun _ _ _ h => h) (by kernel_rfl) hHeld ?_
         try simp only [Act.put, List.setIfInBounds_toArray, List.set_cons_zero, List.set_cons_succ]
         refine takeW (i := 12) (v := ?v10) rfl (by kernel_rfl) (by kernel_rfl) (by kernel_rfl) (fun _ _ _ h => h) (by kernel_rfl) hHeld ?hy10 ?rest10
         case hy10 => (intro w hSw; (try dsimp only at hSw); go_simp; (try with_reducible rfl))
         try simp only [Act.put, List.setIfInBounds_toArray, List.set_cons_zero, List.set_cons_succ]
         obtain ⟨r0, r1, r2, r3, r4, r5, hrb⟩ := hHeld.2.2.2.2.2.2.res
         obtain ⟨y0, y1, y2, y3, y4, y5, f0, f1, f2, f3, f4, f5⟩ := box_six hrb
         refine wpAnyH_ready (rs := [13]) (by kernel_rfl) (by simp) ?_
         refine consL rfl (by kernel_rfl) (fun K hK => ?_) AllReadyH.nil
         go_simp
         refine hK.out _ _ (un_set hHeld (.int .i64 base) (.int .i64 span) (.int .i64 prod) (.int .i64 epoch) (.int .i64 seq) (.slice A L.length c)) (fun hHeld2 => ?_)
         clear hK K y0 y1 y2 y3 y4 y5 f0 f1 f2 f3 f4 f5
         refine takeW (i := 14) (v := ?v11) rfl (by kernel_rfl) (by kernel_rfl) (by kernel_rfl) (fun _ _ _ h => h) (by kernel_rfl) hHeld2 ?hy11 ?rest11
         case hy11 => (intro w hSw; (try dsimp only at hSw); go_simp; (try with_reducible rfl))
         try simp only [Act.put, List.setIfInBounds_toArray, List.set_cons_zero, List.set_cons_succ]
         refine wpAnyH_done (by kernel_rfl) ?_ _
         go_wp2_with fail
         refine bodyPost_ret (v := .tuple #[.agg #[.int .i64 base, .int .i64 span, .int .i64 prod, .int .i64 epoch, .int .i64 seq, .slice A L.length c], .bool false]) ?_ rfl ?_
         ·
          exact unp_result W.heap.size (bset_box hrb _ _ _ _ _ _) _ rfl rfl
         ·
          exact ⟨⟨base, span, prod, epoch, seq⟩, A, L.length, c, rfl, fun _ => ⟨rfl, L, HRF.out, rfl, hHeld2.2.2.2.2.2.2.row⟩, hHeld2.2.2.2.2.2.2.bel⟩
        | true =>
         rw [hnb, Bool.true_and] at HOK
         rw [hnb] at c1
         have hok : ok = plB span L := HOK.out.symm
         subst hok
         clear hnb
         refine wp_region_held_drew (S := (fun w => w.cell? ⟨W.heap.size + 1, 0, none⟩ = some (.int .i64 base) ∧ w.cell? ⟨W.heap.size + 1, 1, none⟩ = some (.int .i64 span) ∧ w.cell? ⟨W.heap.size + 1, 2, none⟩ = some (.int .i64 prod) ∧ w.cell? ⟨W.heap.size + 1, 3, none⟩ = some (.int .i64 epoch) ∧ w.cell? ⟨W.heap.size + 1, 4, none⟩ = some (.int .i64 seq) ∧ w.cell? ⟨W.heap.size + 1, 5, none⟩ = some (.slice A L.length c) ∧ UnS W ⟨base, span, prod, epoch, seq⟩ A c L w)) (by kernel_rfl) hS0 (fun hHeld => ?_)
         refine takeW (i := 0) (v := ?v12) rfl (by kernel_rfl) (by kernel_rfl) (by kernel_rfl) (fun _ _ _ h => h) (by kernel_rfl) hHeld ?hy12 ?rest12
         case hy12 => (intro w hSw; (try dsimp only at hSw); go_simp; (try with_reducible rfl))
         try simp only [Act.put, List.setIfInBounds_toArray, List.set_cons_zero, List.set_cons_succ]
         refine takeW (i := 1) (v := ?v13) rfl (by kernel_rfl) (by kernel_rfl) (by kernel_rfl) (fun _ _ _ h => h) (by kernel_rfl) hHeld ?hy13 ?rest13
         case hy13 => (intro w hSw; (try dsimp only at hSw); go_simp; (try with_reducible rfl))
         try simp only [Act.put, List.setIfInBounds_toArray, List.set_cons_zero, List.set_cons_succ]
         refine takeW (i := 2) (v := ?v14) rfl (by kernel_rfl) (by kernel_rfl) (by kernel_rfl) (fun _ _ _ h => h) (by kernel_rfl) hHeld ?hy14 ?rest14
         case hy14 => (intro w hSw; (try dsimp only at hSw); go_simp; (try with_reducible rfl))
         try simp only [Act.put, List.setIfInBounds_toArray, List.set_cons_zero, List.set_cons_succ]
         refine takeW (i := 3) (v := ?v15) rfl (by kernel_rfl) (by kernel_rfl) (by kernel_rfl) (fun _ _ _ h => h) (by kernel_rfl) hHeld ?hy15 ?rest15
         case hy15 => (intro w hSw; (try dsimp only at hSw); go_simp; (try with_reducible rfl))
         try simp only [Act.put, List.setIfInBounds_toArray, List.set_cons_zero, List.set_cons_succ]
         refine takeW (i := 4) (v := ?v16) rfl (by kernel_rfl) (by kernel_rfl) (by kernel_rfl) (fun _ _ _ h => h) (by kernel_rfl) hHeld ?hy16 ?rest16
         case hy16 => (intro w hSw; (try dsimp only at hSw); go_simp; (try with_reducible rfl))
         try simp only [Act.put, List.setIfInBounds_toArray, List.set_cons_zero, List.set_cons_succ]
         refine takeW (i := 5) (v := ?v17) rfl (by kernel_rfl) (by kernel_rfl) (by kernel_rfl) (fun _ _ _ h => h) (by kernel_rfl) hHeld ?hy17 ?rest17
         case hy17 => (intro w hSw; (try dsimp only at hSw); go_simp; (try with_reducible rfl))
         try simp only [Act.put, List.setIfInBounds_toArray, List.set_cons_zero, List.set_cons_succ]
         refine takeW (i := 6) (v := ?v18) rfl (by kernel_rfl) (by kernel_rfl) (by kernel_rfl) (fun _ _ _ h => h) (by kernel_rfl) hHeld ?hy18 ?rest18
         case hy18 => (intro w hSw; (try dsimp only at hSw); go_simp; (try with_reducible rfl))
         try simp only [Act.put, List.setIfInBounds_toArray, List.set_cons_zero, List.set_cons_succ]
         refine wpAnyH_ready (rs := [7]) (by kernel_rfl) (by simp) ?_
         refine consL rfl (by kernel_rfl) (fun K hK => ?_) AllReadyH.nil
         go_simp
         (with_reducible refine (c1 _).mono ?_)
         rintro e w6 ⟨rfl, hb2⟩
         refine hK.out _ _ (un_later hHeld hb2) (fun hHeld => ?_)
         clear hK K hb2
         try simp only [Act.put, List.setIfInBounds_toArray, List.set_cons_zero, List.set_cons_succ]
         refine takeW (i := 8) (v := ?v19) rfl (by kernel_rfl) (by kernel_rfl) (by kernel_rfl) (fun _ _ _ h => h) (by kernel_rfl) hHeld ?hy19 ?rest19
         case hy19 => (intro w hSw; (try dsimp only at hSw); go_simp; (try with_reducible rfl))
         try simp only [Act.put, List.setIfInBounds_toArray, List.set_cons_zero, List.set_cons_succ]
         refine takeW (i := 9) (v := ?v20) rfl (by kernel_rfl) (by kernel_rfl) (by kernel_rfl) (fun _ _ _ h => h) (by kernel_rfl) hHeld ?hy20 ?rest20
         case hy20 => (intro w hSw; (try dsimp only at hSw); go_simp; (try with_reducible rfl))
         try simp only [Act.put, List.setIfInBounds_toArray, List.set_cons_zero, List.set_cons_succ]
         refine takeW (i := 10) (v := ?v21) rfl (by kernel_rfl) (by kernel_rfl) (by kernel_rfl) (fun _ _ _ h => h) (by kernel_rfl) hHeld ?hy21 ?rest21
         case hy21 => (intro w hSw; (try dsimp only at hSw); go_simp; (try with_reducible rfl))
         try simp only [Act.put, List.setIfInBounds_toArray, List.set_cons_zero, List.set_cons_succ]
         refine wpAnyH_ready (rs := [11]) (by kernel_rfl) (by simp) ?_
         refine consL rfl (by kernel_rfl) (fun K hK => ?_) AllReadyH.nil
         go_simp
         (with_reducible refine (c2 _ hHeld.2.2.2.2.2.2.rin).mono ?_)
         rintro e w7 ⟨rfl, hb2⟩
         refine hK.out _ _ (un_later hHeld hb2) (fun hHeld => ?_)
         clear hK K hb2
         try simp only [Act.put, List.setIfInBounds_toArray, List.set_cons_zero, List.set_cons_succ]
         refine takeW (i := 12) (v := ?v22) rfl (by kernel_rfl) (by kernel_rfl) (by kernel_rfl) (fun _ _ _ h => h) (by kernel_rfl) hHeld ?hy22 ?rest22
         case hy22 => (intro w hSw; (try dsimp only at hSw); go_simp; (try with_reducible rfl))
         try simp only [Act.put, List.setIfInBounds_toArray, List.set_cons_zero, List.set_cons_succ]
         obtain ⟨r0, r1, r2, r3, r4, r5, hrb⟩ := hHeld.2.2.2.2.2.2.res
         obtain ⟨y0, y1, y2, y3, y4, y5, f0, f1, f2, f3, f4, f5⟩ := box_six hrb
         refine wpAnyH_ready (rs := [13]) (by kernel_rfl) (by simp) ?_
         refine consL rfl (by kernel_rfl) (fun K hK => ?_) AllReadyH.nil
         go_simp
         refine hK.out _ _ (un_set hHeld (.int .i64 base) (.int .i64 span) (.int .i64 prod) (.int .i64 epoch) (.int .i64 seq) (.slice A L.length c)) (fun hHeld2 => ?_)
         clear hK K y0 y1 y2 y3 y4 y5 f0 f1 f2 f3 f4 f5
         refine takeW (i := 14) (v := ?v23) rfl (by kernel_rfl) (by kernel_rfl) (by kernel_rfl) (fun _ _ _ h => h) (by kernel_rfl) hHeld2 ?hy23 ?rest23
         case hy23 => (intro w hSw; (try dsimp only at hSw); go_simp; (try with_reducible rfl))
         try simp only [Act.put, List.setIfInBounds_toArray, List.set_cons_zero, List.set_cons_succ]
         refine wpAnyH_done (by kernel_rfl) ?_ _
         go_wp2_with fail
         refine bodyPost_ret (v := .tuple #[.agg #[.int .i64 base, .int .i64 span, .int .i64 prod, .int .i64 epoch, .int .i64 seq, .slice A L.length c], .bool (plB span L)]) ?_ rfl ?_
         ·
          exact unp_result W.heap.size (bset_box hrb _ _ _ _ _ _) _ rfl rfl
         ·
          exact ⟨⟨base, span, prod, epoch, seq⟩, A, L.length, c, rfl, fun _ => ⟨rfl, L, HRF.out, rfl, hHeld2.2.2.2.2.2.2.row⟩, hHeld2.2.2.2.2.2.2.bel⟩
       ·
        have hq' : (q == (s.size : Int)) = false := by rw [beq_eq_false_iff_ne]; exact hq
        have hok : ok = false := by rw [← HOK.out, decide_eq_false hq]; rfl
        subst hok
        refine wp_region_held_drew (S := (fun w => w.cell? ⟨W.heap.size + 1, 0, none⟩ = some (.int .i64 base) ∧ w.cell? ⟨W.heap.size + 1, 1, none⟩ = some (.int .i64 span) ∧ w.cell? ⟨W.heap.size + 1, 2, none⟩ = some (.int .i64 prod) ∧ w.cell? ⟨W.heap.size + 1, 3, none⟩ = some (.int .i64 epoch) ∧ w.cell? ⟨W.heap.size + 1, 4, none⟩ = some (.int .i64 seq) ∧ w.cell? ⟨W.heap.size + 1, 5, none⟩ = some (.slice A L.length c) ∧ UnS W ⟨base, span, prod, epoch, seq⟩ A c L w)) (by kernel_rfl) hS0 (fun hHeld => ?_)
        refine takeW (i := 0) (v := ?v24) rfl (by kernel_rfl) (by kernel_rfl) (by kernel_rfl) (fun _ _ _ h => h) (by kernel_rfl) hHeld ?hy24 ?rest24
        case hy24 => (intro w hSw; (try dsimp only at hSw); go_simp; (try with_reducible rfl))
        try simp only [Act.put, List.setIfInBounds_toArray, List.set_cons_zero, List.set_cons_succ]
        refine takeW (i := 1) (v := ?v25) rfl (by kernel_rfl) (by kernel_rfl) (by kernel_rfl) (fun _ _ _ h => h) (by kernel_rfl) hHeld ?hy25 ?rest25
        case hy25 => (intro w hSw; (try dsimp only at hSw); go_simp; (try with_reducible rfl))
        try simp only [Act.put, List.setIfInBounds_toArray, List.set_cons_zero, List.set_cons_succ]
        refine takeW (i := 2) (v := ?v26) rfl (by kernel_rfl) (by kernel_rfl) (by kernel_rfl) (fun _ _ _ h => h) (by kernel_rfl) hHeld ?hy26 ?rest26
        case hy26 => (intro w hSw; (try dsimp only at hSw); go_simp; (try with_reducible rfl))
        try simp only [Act.put, List.setIfInBounds_toArray, List.set_cons_zero, List.set_cons_succ]
        refine takeW (i := 3) (v := ?v27) rfl (by kernel_rfl) (by kernel_rfl) (by kernel_rfl) (fun _ _ _ h => h) (by kernel_rfl) hHeld ?hy27 ?rest27
        case hy27 => (intro w hSw; (try dsimp only at hSw); go_simp; (try with_reducible rfl))
        try simp only [Act.put, List.setIfInBounds_toArray, List.set_cons_zero, List.set_cons_succ]
        refine takeW (i := 4) (v := ?v28) rfl (by kernel_rfl) (by kernel_rfl) (by kernel_rfl) (fun _ _ _ h => h) (by kernel_rfl) hHeld ?hy28 ?rest28
        case hy28 => (intro w hSw; (try dsimp only at hSw); go_simp; (try with_reducible rfl))
        try simp only [Act.put, List.setIfInBounds_toArray, List.set_cons_zero, List.set_cons_succ]
        refine takeW (i := 5) (v := ?v29) rfl (by kernel_rfl) (by kernel_rfl) (by kernel_rfl) (fun _ _ _ h => h) (by kernel_rfl) hHeld ?hy29 ?rest29
        case hy29 => (intro w hSw; (try dsimp only at hSw); go_simp; (try with_reducible rfl))
        try simp only [Act.put, List.setIfInBounds_toArray, List.set_cons_zero, List.set_cons_succ]
        refine takeU (i := 6) rfl (by kernel_rfl) (by kernel_rfl) (by kernel_rfl) (fun _ _ _ h => h) (by kernel_rfl) hHeld ?_
        try simp only [Act.put, List.setIfInBounds_toArray, List.set_cons_zero, List.set_cons_succ]
        refine takeU (i := 7) rfl (by kernel_rfl) (by kernel_rfl) (by kernel_rfl) (fun _ _ _ h => h) (by kernel_rfl) hHeld ?_
        try simp only [Act.put, List.setIfInBounds_toArray, List.set_cons_zero, List.set_cons_succ]
        refine takeW (i := 8) (v := ?v30) rfl (by kernel_rfl) (by kernel_rfl) (by kernel_rfl) (fun _ _ _ h => h) (by kernel_rfl) hHeld ?hy30 ?rest30
        case hy30 => (intro w hSw; (try dsimp only at hSw); go_simp; (try with_reducible rfl))
        try simp only [Act.put, List.setIfInBounds_toArray, List.set_cons_zero, List.set_cons_succ]
        refine takeW (i := 9) (v := ?v31) rfl (by kernel_rfl) (by kernel_rfl) (by kernel_rfl) (fun _ _ _ h => h) (by kernel_rfl) hHeld ?hy31 ?rest31
        case hy31 => (intro w hSw; (try dsimp only at hSw); go_simp; (try with_reducible rfl))
        try simp only [Act.put, List.setIfInBounds_toArray, List.set_cons_zero, List.set_cons_succ]
        refine takeU (i := 10) rfl (by kernel_rfl) (by kernel_rfl) (by kernel_rfl) (fun _ _ _ h => h) (by kernel_rfl) hHeld ?_
        try simp only [Act.put, List.setIfInBounds_toArray, List.set_cons_zero, List.set_cons_succ]
        refine takeU (i := 11) rfl (by kernel_rfl) (by kernel_rfl) (by kernel_rfl) (fun _ _ _ h => h) (by kernel_rfl) hHeld ?_
        try simp only [Act.put, List.setIfInBounds_toArray, List.set_cons_zero, List.set_cons_succ]
        refine takeW (i := 12) (v := ?v32) rfl (by kernel_rfl) (by kernel_rfl) (by kernel_rfl) (fun _ _ _ h => h) (by kernel_rfl) hHeld ?hy32 ?rest32
        case hy32 => (intro w hSw; (try dsimp only at hSw); go_simp; (try with_reducible rfl))
        try simp only [Act.put, List.setIfInBounds_toArray, List.set_cons_zero, List.set_cons_succ]
        obtain ⟨r0, r1, r2, r3, r4, r5, hrb⟩ := HS0.out.res
        obtain ⟨y0, y1, y2, y3, y4, y5, f0, f1, f2, f3, f4, f5⟩ := box_six hrb
        refine wpAnyH_ready (rs := [13]) (by kernel_rfl) (by simp) ?_
        refine consL rfl (by kernel_rfl) (fun K hK => ?_) AllReadyH.nil
        go_simp
        refine hK.out _ _ (UnS.later (un_set HS0.out.cells (.int .i64 base) (.int .i64 span) (.int .i64 prod) (.int .i64 epoch) (.int .i64 seq) (.slice A L.length c)).2.2.2.2.2.2 ((Below.refl _ _).drew)).cells (fun hHeld2 => ?_)
        clear hK K y0 y1 y2 y3 y4 y5 f0 f1 f2 f3 f4 f5
        refine takeW (i := 14) (v := ?v33) rfl (by kernel_rfl) (by kernel_rfl) (by kernel_rfl) (fun _ _ _ h => h) (by kernel_rfl) hHeld2 ?hy33 ?rest33
        case hy33 => (intro w hSw; (try dsimp only at hSw); go_simp; (try with_reducible rfl))
        try simp only [Act.put, List.setIfInBounds_toArray, List.set_cons_zero, List.set_cons_succ]
        refine wpAnyH_done (by kernel_rfl) ?_ _
        go_wp2_with fail
        refine bodyPost_ret (v := .tuple #[.agg #[.int .i64 base, .int .i64 span, .int .i64 prod, .int .i64 epoch, .int .i64 seq, .slice A L.length c], .bool false]) ?_ rfl ?_
        ·
         exact unp_result W.heap.size (bset_box hrb _ _ _ _ _ _).drew _ rfl rfl
        ·
         exact ⟨⟨base, span, prod, epoch, seq⟩, A, L.length, c, rfl, fun _ => ⟨rfl, L, HRF.out, rfl, hHeld2.2.2.2.2.2.2.row⟩, hHeld2.2.2.2.2.2.2.bel⟩
end Go.Proofs.YtjnphajkoopkgaaGreatDoor
/- The program's Decode of a batch. Condition: the table of sums. -/
namespace Go.Proofs.YtjnphajkoopkgaaGreatDoor
open Go.RowKit
set_option linter.unusedVariables false
def zeroN : BN := ⟨0, 0, 0, 0, 0⟩
/-- What Decode hands back. -/
def decG (s : ByteArray) (p : Int) : BN × List Rec × Int × Int :=
  if (bodyG s p).2.2 ≠ 0 then (zeroN, [], 0, (bodyG s p).2.2) else
  if unpB (bodyG s p).1 = true then (nbn (nrd (bodyG s p).1 6).1, (recN (bodyG s p).1).1, (bodyG s p).2.1, 0) else (zeroN, [], 0, 3)
def GotBt (W : World) (b : BN) (R : List Rec) (q e : Int) (en : Ending) (w' : World) : Prop :=
  ∃ (L : List RX) (A : Option Addr) (c : Nat), L.map (·.1) = R ∧ en = .returned (.tuple #[.agg (bnC b (.slice A L.length c)), .int .i64 q, .int .i64 e]) ∧ RowR w' W.heap.size (.slice A L.length c) L ∧ Below W.heap.size W w'
theorem GotBt.zero {W w' : World} {e : Int} (h : Below W.heap.size W w') : GotBt W zeroN [] 0 e (.returned (.tuple #[.agg #[.int .i64 0, .int .i64 0, .int .i64 0, .int .i64 0, .int .i64 0, .slice none 0 0], .int .i64 0, .int .i64 e])) w' :=
  ⟨[], none, 0, rfl, rfl, RowR.nil _ _, h⟩
theorem pdc_result {w : World} (g : Nat) {v0 v1 v2 v3 v4 v5 x y : Value} (h : Box w g 44 #[v0, v1, v2, v3, v4, v5]) (tmps : Array Value) (ht : (tmps[4]?).getD undef = .pointer (some ⟨g, 0, none⟩)) (h5 : (tmps[5]?).getD undef = x) (h6 : (tmps[6]?).getD undef = y) :
    (results Tryz.f47 tmps).run Tryz.prog w = .ok (.tuple #[.agg #[v0, v1, v2, v3, v4, v5], x, y]) w := by
  have c0 := (h.cell 0).trans (show _ = some v0 from rfl)
  have c1 := (h.cell 1).trans (show _ = some v1 from rfl)
  have c2 := (h.cell 2).trans (show _ = some v2 from rfl)
  have c3 := (h.cell 3).trans (show _ = some v3 from rfl)
  have c4 := (h.cell 4).trans (show _ = some v4 from rfl)
  have c5 := (h.cell 5).trans (show _ = some v5 from rfl)
  simp [results, Tryz.results47, go_sem, ht, h5, h6, c0, c1, c2, c3, c4, c5]
theorem bodyG_size (s : ByteArray) (p : Int) : (bodyG s p).1.size ≤ s.size := by
  unfold bodyG
  repeat' split
  all_goals first | exact Nat.zero_le _ | (rw [ByteArray.size_extract]; omega)
/-- A row through stores into one block of another type. -/
theorem RowR.bset {w : World} {base g t : Nat} {v : Value} {L : List RX} {z0 z1 z2 z3 z4 z5 : Value} (h : RowR w base v L) (hb : Box w g t #[z0, z1, z2, z3, z4, z5]) (h1 : t ≠ 85) (h2 : t ≠ 87) (v0 v1 v2 v3 v4 v5 : Value) : RowR (bset w g v0 v1 v2 v3 v4 v5) base v L :=
  ⟨own_off h.row (bset_off w g v0 v1 v2 v3 v4 v5) (fun k e => own_ne h.row hb h1 k e), fun x hx => own_off (h.heads x hx) (bset_off w g v0 v1 v2 v3 v4 v5) (fun k e => own_ne (h.heads x hx) hb h2 k e)⟩
theorem RowR.base {w : World} {base base' : Nat} {v : Value} {L : List RX} (h : RowR w base v L) (hb : base' ≤ base) : RowR w base' v L := ⟨own_base h.row hb, fun x hx => own_base (h.heads x hx) hb⟩
set_option maxHeartbeats 8000000 in
set_option maxRecDepth 100000 in
theorem pdecode5_c (s : ByteArray) (p : Int) (W : World) (hs : s.size ≤ 140737488351232) (hT : Tab W) :
    Calls Tryz.prog 47 #[.string s, .int .i64 p] W (GotBt W (decG s p).1 (decG s p).2.1 (decG s p).2.2.1 (decG s p).2.2.2) := by
  have hal : Below W.heap.size W (W.alloc (.cells #[.int .i64 0, .int .i64 0, .int .i64 0, .int .i64 0, .int .i64 0, .slice none 0 0] 44)) := (Below.refl _ W).alloc (Nat.le_refl _) _
  have hbx := Box.new W 44 #[.int .i64 0, .int .i64 0, .int .i64 0, .int .i64 0, .int .i64 0, .slice none 0 0]
  have cb := pbodyAt_c s p (W.alloc (.cells #[.int .i64 0, .int .i64 0, .int .i64 0, .int .i64 0, .int .i64 0, .slice none 0 0] 44)) hs (hT.below hal)
  have hbs := bodyG_size s p
  unfold bodyV at cb
  have HA := Lib.hid (And.intro hal hbx)
  clear hal hbx
  unfold decG
  generalize (bodyG s p).1 = t at *
  generalize (bodyG s p).2.1 = q at *
  generalize (bodyG s p).2.2 = e at *
  by_cases he : e = 0
  · subst he
    rw [if_neg (by simp)]
    have cu := fun w => unpack_c t w (by omega)
    cases hu : unpB t with
    | false =>
      rw [if_neg (by decide)]
      rw [hu] at cu
      clear hu
      go_enter Tryz.func47, Tryz.ntmps47
      go_wp2_with fail
      (with_reducible refine cb.mono ?_)
      rintro en w1 ⟨rfl, hb1⟩
      have HA1 := Lib.hid (And.intro (HA.out.1.trans (hb1.mono HA.out.1.size)) (HA.out.2.later hb1))
      clear hb1 cb HA
      go_wp2_with fail
      (with_reducible refine (cu _).mono ?_)
      rintro en w2 ⟨b', A, n, c, rfl, hok, hb2⟩
      have HA2 := Lib.hid (And.intro (HA1.out.1.trans (hb2.mono HA1.out.1.size)) (HA1.out.2.later hb2))
      clear hb2 cu HA1 hok
      obtain ⟨base, span, prod, epoch, seq⟩ := b'
      unfold bnC
      simp only
      have HA3 := Lib.hid (And.intro (HA2.out.1.alloc HA2.out.1.size (.cells #[.int .i64 base, .int .i64 span, .int .i64 prod, .int .i64 epoch, .int .i64 seq, .slice A n c] 44)) (HA2.out.2.alloc (.cells #[.int .i64 base, .int .i64 span, .int .i64 prod, .int .i64 epoch, .int .i64 seq, .slice A n c] 44)))
      obtain ⟨y0, y1, y2, y3, y4, y5, f0, f1, f2, f3, f4, f5⟩ := box_six HA3.out.2
      go_wp2_with fail
      refine bodyPost_ret (v := .tuple #[.agg #[.int .i64 0, .int .i64 0, .int .i64 0, .int .i64 0, .int .i64 0, .slice none 0 0], .int .i64 0, .int .i64 3]) ?_ rfl ?_
      · exact pdc_result W.heap.size (bset_box HA3.out.2 _ _ _ _ _ _) _ rfl rfl rfl
      · exact GotBt.zero (below_off HA3.out.1 (bset_off _ _ _ _ _ _ _ _) (Nat.le_refl _))
    | true =>
      rw [if_pos rfl]
      rw [hu] at cu
      clear hu
      go_enter Tryz.func47, Tryz.ntmps47
      go_wp2_with fail
      (with_reducible refine cb.mono ?_)
      rintro en w1 ⟨rfl, hb1⟩
      have HA1 := Lib.hid (And.intro (HA.out.1.trans (hb1.mono HA.out.1.size)) (HA.out.2.later hb1))
      clear hb1 cb HA
      go_wp2_with fail
      (with_reducible refine (cu _).mono ?_)
      rintro en w2 ⟨b', A, n, c, rfl, hok, hb2⟩
      obtain ⟨rfl, L, hLR, hnL, hrow⟩ := hok rfl
      subst hnL
      have HA2 := Lib.hid (And.intro (HA1.out.1.trans (hb2.mono HA1.out.1.size)) (HA1.out.2.later hb2))
      have HR2 := Lib.hid (hrow.base HA1.out.1.size)
      clear hb2 cu HA1 hok hrow
      have HLR := Lib.hid hLR
      clear hLR
      generalize nbn (nrd t 6).1 = bb at *
      obtain ⟨base, span, prod, epoch, seq⟩ := bb
      unfold bnC
      simp only
      have hal2 : Below w2.heap.size w2 (w2.alloc (.cells #[.int .i64 base, .int .i64 span, .int .i64 prod, .int .i64 epoch, .int .i64 seq, .slice A L.length c] 44)) := (Below.refl _ _).alloc (Nat.le_refl _) _
      have HA3 := Lib.hid (And.intro (HA2.out.1.alloc HA2.out.1.size (.cells #[.int .i64 base, .int .i64 span, .int .i64 prod, .int .i64 epoch, .int .i64 seq, .slice A L.length c] 44)) (HA2.out.2.alloc (.cells #[.int .i64 base, .int .i64 span, .int .i64 prod, .int .i64 epoch, .int .i64 seq, .slice A L.length c] 44)))
      have HR3 := Lib.hid (HR2.out.later hal2)
      clear hal2
      obtain ⟨y0, y1, y2, y3, y4, y5, f0, f1, f2, f3, f4, f5⟩ := box_six HA3.out.2
      go_wp2_with fail
      refine bodyPost_ret (v := .tuple #[.agg #[.int .i64 base, .int .i64 span, .int .i64 prod, .int .i64 epoch, .int .i64 seq, .slice A L.length c], .int .i64 q, .int .i64 0]) ?_ rfl ?_
      · exact pdc_result W.heap.size (bset_box HA3.out.2 _ _ _ _ _ _) _ rfl rfl rfl
      · exact ⟨L, A, c, HLR.out, rfl, HR3.out.bset HA3.out.2 (by decide) (by decide) _ _ _ _ _ _, below_off HA3.out.1 (bset_off _ _ _ _ _ _ _ _) (Nat.le_refl _)⟩
  · rw [if_pos he]
    have he' : (e == 0) = false := by rw [beq_eq_false_iff_ne]; exact he
    have he2 : (e != 0) = true := by simpa using he
    go_enter Tryz.func47, Tryz.ntmps47
    go_wp2_with fail
    (with_reducible refine cb.mono ?_)
    rintro en w1 ⟨rfl, hb1⟩
    have HA1 := Lib.hid (And.intro (HA.out.1.trans (hb1.mono HA.out.1.size)) (HA.out.2.later hb1))
    clear hb1 cb HA
    obtain ⟨y0, y1, y2, y3, y4, y5, f0, f1, f2, f3, f4, f5⟩ := box_six HA1.out.2
    go_wp2_with fail
    refine bodyPost_ret (v := .tuple #[.agg #[.int .i64 0, .int .i64 0, .int .i64 0, .int .i64 0, .int .i64 0, .slice none 0 0], .int .i64 0, .int .i64 e]) ?_ rfl ?_
    · exact pdc_result W.heap.size (bset_box HA1.out.2 _ _ _ _ _ _) _ rfl rfl rfl
    · exact GotBt.zero (below_off HA1.out.1 (bset_off _ _ _ _ _ _ _ _) (Nat.le_refl _))
end Go.Proofs.YtjnphajkoopkgaaGreatDoor
/- The program's Scan: rows of batches in memory; the walk. Condition: the table of sums. -/
namespace Go.Proofs.YtjnphajkoopkgaaGreatDoor
open Go.RowKit
set_option linter.unusedVariables false
/-- A batch and where its records lie. -/
abbrev BX := BN × List RX × Option Addr × Nat
def batsC (L : List BX) : List Value := L.flatMap fun x => (bnC x.1 (.slice x.2.2.1 x.2.1.length x.2.2.2)).toList
theorem batsC_snoc (L : List BX) (x : BX) : batsC (L ++ [x]) = batsC L ++ (bnC x.1 (.slice x.2.2.1 x.2.1.length x.2.2.2)).toList := by simp [batsC]
/-- What a batch holds. -/
def BX.told (x : BX) : BN × List Rec := (x.1, x.2.1.map (·.1))
/-- Batches in memory of the call's own. -/
structure BtsR (w : World) (base : Nat) (v : Value) (L : List BX) : Prop where
  row : w.ownsRow base 44 6 v L.length (batsC L)
  recs : ∀ x ∈ L, RowR w base (.slice x.2.2.1 x.2.1.length x.2.2.2) x.2.1
section
variable {w w' : World} {base : Nat} {v : Value} {L : List BX}
theorem BtsR.nil (w : World) (base : Nat) : BtsR w base (.slice none 0 0) [] := ⟨World.ownsRow_nil _ _ _ _, fun x hx => by cases hx⟩
theorem BtsR.later (h : BtsR w base v L) (hb : Below w.heap.size w w') : BtsR w' base v L := ⟨own_below h.row hb, fun x hx => (h.recs x hx).later hb⟩
theorem RowR.kept {v' : Value} {K : List RX} {n : Nat} {xs : List Value} (h : RowR w base v' K) (ho : w.ownsRow base 44 6 v n xs) (hg : w.grownBy w' v.ownBlock) : RowR w' base v' K :=
  ⟨h.row.kept hg (own_two h.row ho (by decide)), fun y hy => (h.heads y hy).kept hg (own_two (h.heads y hy) ho (by decide))⟩
theorem BtsR.grow {v' : Value} {x : BX} (h : BtsR w base v L) (hh : RowR w base (.slice x.2.2.1 x.2.1.length x.2.2.2) x.2.1)
    (ho : w'.ownsRow base 44 6 v' (L.length + 1) (batsC L ++ (bnC x.1 (.slice x.2.2.1 x.2.1.length x.2.2.2)).toList)) (hg : w.grownBy w' v.ownBlock) : BtsR w' base v' (L ++ [x]) := by
  refine ⟨by rw [batsC_snoc, List.length_append]; exact ho, fun y hy => ?_⟩
  rw [List.mem_append] at hy
  rcases hy with hy | hy
  · exact (h.recs y hy).kept h.row hg
  · simp at hy
    subst hy
    exact hh.kept h.row hg
end
theorem batInfo : (Tryz.prog.info? 44).map (fun i => (i.zero, i.size, i.bytes)) = some (some (.agg #[.int .i64 0, .int .i64 0, .int .i64 0, .int .i64 0, .int .i64 0, .slice none 0 0]), 6, 64) := by kernel_rfl
theorem bat_one (b : BN) (A : Option Addr) (n c : Nat) : ∀ u ∈ (bnC b (.slice A n c)).toList, u.oneCell' = true := by
  intro u hu
  unfold bnC at hu
  simp at hu
  rcases hu with rfl | rfl | rfl | rfl | rfl | rfl <;> rfl
theorem batC_zero : (Value.agg #[.int .i64 0, .int .i64 0, .int .i64 0, .int .i64 0, .int .i64 0, .slice none 0 0]).cells.size = 6 := rfl
/-- What Scan says: how often, at most `n` times, from a place on. -/
def scanG (s : ByteArray) : Nat → Int → List (BN × List Rec) × Int
  | 0, p => ([], p)
  | n + 1, p => if (decG s p).2.2.2 ≠ 0 then ([], p) else (((decG s p).1, (decG s p).2.1) :: (scanG s n (decG s p).2.2.1).1, (scanG s n (decG s p).2.2.1).2)
theorem bodyG_up {s : ByteArray} {p : Int} (h : (bodyG s p).2.2 = 0) : 0 ≤ p ∧ p + 8 ≤ (bodyG s p).2.1 ∧ (bodyG s p).2.1 ≤ s.size := by
  unfold bodyG at h ⊢
  by_cases h1 : p < 0 ∨ (s.size : Int) < p
  · rw [if_pos h1] at h; exact absurd h (by decide)
  rw [if_neg h1] at h ⊢
  by_cases h2 : s.size < p.toNat + 8
  · rw [if_pos h2] at h; exact absurd h (by decide)
  rw [if_neg h2] at h ⊢
  by_cases h3 : 60000 < rd4 s p.toNat
  · rw [if_pos h3] at h; exact absurd h (by decide)
  rw [if_neg h3] at h ⊢
  by_cases h4 : s.size < p.toNat + 8 + rd4 s p.toNat
  · rw [if_pos h4] at h; exact absurd h (by decide)
  rw [if_neg h4] at h ⊢
  by_cases h5 : sumN (s.extract (p.toNat + 8) (p.toNat + 8 + rd4 s p.toNat)) ≠ rd4 s (p.toNat + 4)
  · rw [if_pos h5] at h; exact absurd h (by decide)
  rw [if_neg h5] at h ⊢
  show 0 ≤ p ∧ p + 8 ≤ ((p.toNat + 8 + rd4 s p.toNat : Nat) : Int) ∧ ((p.toNat + 8 + rd4 s p.toNat : Nat) : Int) ≤ s.size
  omega
theorem decG_up {s : ByteArray} {p : Int} (h : (decG s p).2.2.2 = 0) : 0 ≤ p ∧ p + 8 ≤ (decG s p).2.2.1 ∧ (decG s p).2.2.1 ≤ s.size := by
  unfold decG at h ⊢
  split at h
  · rename_i h1; exact absurd h h1
  · rename_i h1
    rw [if_neg h1]
    split at h
    · rename_i h2
      rw [if_pos h2]
      exact bodyG_up (by simpa using h1)
    · simp at h
/-- What Scan leaves. -/
def GotSc (W : World) (R : List (BN × List Rec)) (q : Int) (en : Ending) (w' : World) : Prop :=
  ∃ (L : List BX) (A : Option Addr) (c : Nat), L.map BX.told = R ∧ en = .returned (.tuple #[.slice A L.length c, .int .i64 q]) ∧ BtsR w' W.heap.size (.slice A L.length c) L ∧ Below W.heap.size W w'
/-- Where the scan stands. -/
structure ScanS (s : ByteArray) (W : World) (R : List (BN × List Rec)) (q : Int) (A : Option Addr) (c : Nat) (L : List BX) (e : Int) (w : World) : Prop where
  row : BtsR w W.heap.size (.slice A L.length c) L
  bel : Below W.heap.size W w
  lo : 8 * (L.length : Int) ≤ e
  hi : e ≤ s.size
  goes : ∃ m, s.size < m + e.toNat ∧ L.map BX.told ++ (scanG s m e).1 = R ∧ (scanG s m e).2 = q
theorem ScanS.stop {s : ByteArray} {W w : World} {R : List (BN × List Rec)} {q : Int} {A : Option Addr} {c : Nat} {L : List BX} {e : Int} (h : ScanS s W R q A c L e w) (he : (decG s e).2.2.2 ≠ 0) : L.map BX.told = R ∧ e = q := by
  obtain ⟨m, hm, hR, hq⟩ := h.goes
  cases m with
  | zero => have := h.hi; omega
  | succ m =>
    unfold scanG at hR hq
    rw [if_pos he] at hR hq
    exact ⟨by simpa using hR, hq⟩
theorem ScanS.go {s : ByteArray} {W w w' : World} {R : List (BN × List Rec)} {q : Int} {A A' : Option Addr} {c c' : Nat} {L : List BX} {e : Int} {x : BX} (h : ScanS s W R q A c L e w) (he : (decG s e).2.2.2 = 0)
    (hx : x.told = ((decG s e).1, (decG s e).2.1)) (hr : BtsR w' W.heap.size (.slice A' (L.length + 1) c') (L ++ [x])) (hb : Below W.heap.size W w') : ScanS s W R q A' c' (L ++ [x]) (decG s e).2.2.1 w' := by
  have hu := decG_up he
  have h1 := h.lo
  refine ⟨by rw [List.length_append]; exact hr, hb, by rw [List.length_append]; simp; omega, hu.2.2, ?_⟩
  obtain ⟨m, hm, hR, hq⟩ := h.goes
  cases m with
  | zero => have := h.hi; omega
  | succ m =>
    refine ⟨m, by omega, ?_, ?_⟩
    · rw [← hR]
      have e1 : scanG s (m + 1) e = (((decG s e).1, (decG s e).2.1) :: (scanG s m (decG s e).2.2.1).1, (scanG s m (decG s e).2.2.1).2) := by
        show (if _ then _ else _) = _
        rw [if_neg (by simpa using he)]
      rw [e1, List.map_append, List.append_assoc]
      simp [hx]
    · rw [← hq]
      show _ = (if _ then _ else _ : List (BN × List Rec) × Int).2
      rw [if_neg (by simpa using he)]
def ScanJ (s : ByteArray) (R : List (BN × List Rec)) (q : Int) (W : World) (a' : Act) (w' : World) : Prop :=
  ∃ (L : List BX) (A : Option Addr) (c : Nat) (e : Int) (u1 u6 u7 u8 u9 u10 u11 u12 u13 u14 u15 u16 u17 u18 u19 u20 u21 u22 u23 u24 : Value), a' = ⟨#[.string s, u1, .slice none 0 0, .int .i64 0, .slice A L.length c, .int .i64 e, u6, u7, u8, u9, u10, u11, u12, u13, u14, u15, u16, u17, u18, u19, u20, u21, u22, u23, u24], []⟩ ∧ ScanS s W R q A c L e w'
set_option maxHeartbeats 16000000 in
set_option maxRecDepth 100000 in
theorem pscan_c (s : ByteArray) (W : World) (hs : s.size ≤ 5000000) (hT : Tab W) :
    Calls Tryz.prog 58 #[.string s] W (GotSc W (scanG s (s.size + 1) 0).1 (scanG s (s.size + 1) 0).2) := by
  obtain ⟨R, hR⟩ : ∃ R, (scanG s (s.size + 1) 0).1 = R := ⟨_, rfl⟩
  obtain ⟨q, hq⟩ : ∃ q, (scanG s (s.size + 1) 0).2 = q := ⟨_, rfl⟩
  have H0 : Hid (ScanS s W R q none 0 [] 0 W) := Lib.hid ⟨BtsR.nil _ _, Below.refl _ _, by simp, by omega, s.size + 1, by omega, by simpa using hR, hq⟩
  rw [hR, hq]
  clear hR hq
  obtain ⟨i0, hi, hz0, hz1, hz2⟩ := info_parts batInfo
  go_enter Tryz.func58, Tryz.ntmps58
  go_wp2_with fail
  refine wp_scope_label 0 (ScanJ s R q W) (fun a' _ => s.size - (intOf (a'.tmps.getD 5 undef)).toNat) rfl ?_ ?_
  · rintro a' w' ⟨L, A, c, e, u1, u6, u7, u8, u9, u10, u11, u12, u13, u14, u15, u16, u17, u18, u19, u20, u21, u22, u23, u24, rfl, hS⟩
    have cd := pdecode5_c s e w' (by omega) (hT.below hS.bel)
    have HG := Lib.hid (fun he (x : BX) A' c' w2 => hS.go (w' := w2) (A' := A') (c' := c') (x := x) he)
    have HE := Lib.hid hS.stop
    have hup := fun h => decG_up (s := s) (p := e) h
    have HS := Lib.hid hS
    have hlo := hS.lo
    have hhi := hS.hi
    clear H0 hS
    generalize (decG s e).1 = b at *
    generalize (decG s e).2.1 = K at *
    generalize (decG s e).2.2.1 = e1 at *
    generalize (decG s e).2.2.2 = e2 at *
    obtain ⟨base, span, prod, epoch, seq⟩ := b
    unfold GotBt bnC at cd
    simp only at cd
    by_cases he : e2 = 0
    · subst he
      have hup := hup rfl
      have HG := Lib.hid (HG.out rfl)
      clear HE
      go_wp2_with fail
      (with_reducible refine cd.mono ?_)
      rintro en w1 ⟨X, B, d, hX, rfl, hrow, hb1⟩
      have hsz1 := HS.out.bel.size
      have hal1 : Below w1.heap.size w1 (w1.alloc (.cells #[.int .i64 base, .int .i64 span, .int .i64 prod, .int .i64 epoch, .int .i64 seq, .slice B X.length d] 44)) := (Below.refl _ _).alloc (Nat.le_refl _) _
      have hal2 : Below w1.heap.size w1 ((w1.alloc (.cells #[.int .i64 base, .int .i64 span, .int .i64 prod, .int .i64 epoch, .int .i64 seq, .slice B X.length d] 44)).alloc (.cells #[.int .i64 base, .int .i64 span, .int .i64 prod, .int .i64 epoch, .int .i64 seq, .slice B X.length d] 44)) := hal1.alloc hal1.size _
      have HV2 := Lib.hid (And.intro ((HS.out.row.later hb1).later hal2) (And.intro ((hrow.base hsz1).later hal2) ((HS.out.bel.trans (hb1.mono hsz1)).trans (hal2.mono (Nat.le_trans hsz1 hb1.size)))))
      have hrow2 := HV2.out.1.row
      have hbn := (by
        have := Box.new (w1.alloc (.cells #[.int .i64 base, .int .i64 span, .int .i64 prod, .int .i64 epoch, .int .i64 seq, .slice B X.length d] 44)) 44 (bnC ⟨base, span, prod, epoch, seq⟩ (.slice B X.length d))
        rw [World.size_alloc] at this
        exact this : Box ((w1.alloc (.cells #[.int .i64 base, .int .i64 span, .int .i64 prod, .int .i64 epoch, .int .i64 seq, .slice B X.length d] 44)).alloc (.cells (bnC ⟨base, span, prod, epoch, seq⟩ (.slice B X.length d)) 44)) (w1.heap.size + 1) 44 (bnC ⟨base, span, prod, epoch, seq⟩ (.slice B X.length d)))
      have hnews := news_at hbn
      have hone := bat_one ⟨base, span, prod, epoch, seq⟩ B X.length d
      have hsz2 := HV2.out.2.2.size
      unfold bnC at hnews hone
      simp only at hnews hone
      have HNW := Lib.hid (And.intro hnews hone)
      have HX := Lib.hid hX
      clear hal1 hal2 hbn hnews hone hrow hb1 hX cd
      go_wp2_with (at_builtin; refine wpList_append_own_at _ rfl _ _ 51 rfl W.heap.size 44 i0 _ 6 64 Tryz.underlying51 hi hz0 hz1 hz2 batC_zero (by decide) (.slice A L.length c) L.length (batsC L) rfl hrow2 ⟨w1.heap.size + 1, 0, none⟩ 1 1 [.int .i64 base, .int .i64 span, .int .i64 prod, .int .i64 epoch, .int .i64 seq, .slice B X.length d] rfl rfl HNW.out.1 HNW.out.2 (by unfold maxLen; omega) (by omega) hsz2 ?_)
      intro v' w2 hown' hgrow _ _
      obtain ⟨g', cap', rfl⟩ : ∃ g' cap', v' = .slice (some ⟨g', 0, none⟩) (L.length + 1) cap' := by
        rcases hown'.2 with ⟨_, h0⟩ | ⟨g, cap, cur, hv, _⟩
        · omega
        · exact ⟨g, cap, hv⟩
      have HB2 := Lib.hid (HV2.out.2.2.grown hgrow hsz2 (fun j e => (hrow2.lt j e).1))
      have HR2 := Lib.hid (HV2.out.1.grow (x := (⟨base, span, prod, epoch, seq⟩, X, B, d)) HV2.out.2.1 hown' hgrow)
      clear hown' hgrow hrow2
      go_wp2
      go_step3
      refine ⟨rfl, ?_, ?_⟩
      · refine ⟨L ++ [(⟨base, span, prod, epoch, seq⟩, X, B, d)], some ⟨g', 0, none⟩, cap', e1, ?_⟩
        rw [show (L ++ [((⟨base, span, prod, epoch, seq⟩, X, B, d) : BX)]).length = L.length + 1 by simp]
        repeat apply Exists.intro
        exact ⟨rfl, HG.out trivial _ _ _ _ (by unfold BX.told; rw [HX.out]) HR2.out HB2.out⟩
      · show s.size - e1.toNat < s.size - e.toNat
        omega
    · have he' : (e2 == 0) = false := by rw [beq_eq_false_iff_ne]; exact he
      have hst := HE.out he
      obtain ⟨hLR, rfl⟩ := hst
      have HLR := Lib.hid hLR
      clear hLR HE HG hup he
      go_wp2_with fail
      (with_reducible refine cd.mono ?_)
      rintro en w1 ⟨X, B, d, hX, rfl, hrow, hb1⟩
      have hsz1 := HS.out.bel.size
      have hal1 : Below w1.heap.size w1 (w1.alloc (.cells #[.int .i64 base, .int .i64 span, .int .i64 prod, .int .i64 epoch, .int .i64 seq, .slice B X.length d] 44)) := (Below.refl _ _).alloc (Nat.le_refl _) _
      have HV2 := Lib.hid (And.intro ((HS.out.row.later hb1).later hal1) ((HS.out.bel.trans (hb1.mono hsz1)).trans (hal1.mono (Nat.le_trans hsz1 hb1.size))))
      clear hal1 hb1 hrow hX cd
      go_wp2
      simp only [Exit.jump]
      go_wp2
      go_ret2
      refine ⟨L, A, c, HLR.out, ?_, HV2.out.1, HV2.out.2⟩
      rfl
  · intro hgo
    go_wp2
    rename_i hK
    refine wp_label (hK _ _ (hgo _ _ ?_))
    refine ⟨[], none, 0, 0, ?_⟩
    repeat apply Exists.intro
    exact ⟨rfl, H0.out⟩
end Go.Proofs.YtjnphajkoopkgaaGreatDoor
/- Plain laws of a batch's body: what was read is what was written; what was written is read. No condition. -/
namespace Go.Proofs.YtjnphajkoopkgaaGreatDoor
open Go.RowKit
set_option linter.unusedVariables false
def bodyR (b : BN) (R : List Rec) : List UInt8 := frontL b R.length ++ R.flatMap encL
theorem bodyL_R (b : BN) (L : List RX) : bodyL b L = bodyR b (L.map (·.1)) := by
  unfold bodyL bodyR encsL
  rw [List.length_map, List.flatMap_map]
theorem nrd_span {s : ByteArray} : ∀ k, (nrd s k).2.2 = 0 → Span s 0 (nrd s k).2.1 (putsL (nrd s k).1)
  | 0, _ => Span.nil (Int.le_refl _) (by omega)
  | k + 1, h => by
    unfold nrd at h ⊢
    by_cases h1 : (nrd s k).2.2 ≠ 0
    · rw [if_pos h1] at h; exact absurd h h1
    · rw [if_neg h1] at h ⊢
      have ih := nrd_span k (by simpa using h1)
      have g := (get_ok h).1
      simp only
      rw [putsL_snoc]
      exact ih.join g
theorem rrd_span {s : ByteArray} {q : Int} (h0 : 0 ≤ q) (h1 : q ≤ s.size) : ∀ k, (rrd s q k).2.2 = 0 → Span s q (rrd s q k).2.1 ((rrd s q k).1.flatMap encL)
  | 0, _ => Span.nil h0 h1
  | k + 1, h => by
    unfold rrd at h ⊢
    by_cases h2 : (rrd s q k).2.2 ≠ 0
    · rw [if_pos h2] at h; exact absurd h h2
    · rw [if_neg h2] at h ⊢
      by_cases h3 : (decR s (rrd s q k).2.1).2.2 ≠ 0
      · rw [if_pos h3] at h; exact absurd h h3
      · rw [if_neg h3]
        have ih := rrd_span h0 h1 k (by simpa using h2)
        have g := (dec_ok (by simpa using h3)).2
        simp only [List.flatMap_append, List.flatMap_cons, List.flatMap_nil, List.append_nil]
        exact ih.join g
theorem nrd_nums {s : ByteArray} (h : (nrd s 6).2.2 = 0) (hc : 0 ≤ cntN s) : (nrd s 6).1 = numsI (nbn (nrd s 6).1) (cntN s).toNat := by
  have hl := nrd_len 6 h
  unfold cntN at *
  generalize (nrd s 6).1 = l at *
  match l, hl with
  | [a, b, c, d, e, f], _ =>
    have hf : 0 ≤ f := hc
    have : ((f.toNat : Nat) : Int) = f := by omega
    simp [numsI, nbn, this]
theorem unp_body {s : ByteArray} (h0 : (nrd s 6).2.2 = 0) (h1 : 0 ≤ cntN s) (h2 : (recN s).2.2 = 0) (h3 : (recN s).2.1 = s.size) : s.data.toList = bodyR (nbn (nrd s 6).1) (recN s).1 := by
  have a := nrd_span 6 h0
  have b := rrd_span (Int.le_trans a.1 a.2.1) a.2.2.1 _ h2
  have hn := rrd_len _ h2
  have c := a.join b
  have d := c.2.2.2
  change s.data.toList.drop (0 : Int).toNat = (putsL (nrd s 6).1 ++ (recN s).1.flatMap encL) ++ s.data.toList.drop ((recN s).2.1).toNat at d
  rw [h3, Int.toNat_natCast, show s.data.toList.drop s.size = [] from List.drop_eq_nil_iff.2 (Nat.le_refl _), List.append_nil] at d
  rw [show s.data.toList = s.data.toList.drop (0 : Int).toNat from rfl, d, nrd_nums h0 h1, putsL_all]
  unfold bodyR
  have e : (recN s).1.length = (cntN s).toNat := hn
  rw [e]
  congr 1
theorem rrd_all {s : ByteArray} {L : List RX} (h : L.map (·.1) = (recN s).1) : (L.all fun x => okRec x.1) = true := by
  rw [List.all_eq_true]
  intro x hx
  have : x.1 ∈ (recN s).1 := by rw [← h]; exact List.mem_map_of_mem hx
  exact rrd_ok _ _ this
/-- What the document's Check says of a batch that was read to its body's end. -/
theorem inner_last {s : ByteArray} {L : List RX} (hs : s.size ≤ 60000) (h0 : (nrd s 6).2.2 = 0) (h1 : 0 ≤ cntN s) (hc : cntN s ≤ 50) (h2 : (recN s).2.2 = 0) (h3 : (recN s).2.1 = s.size) (hL : L.map (·.1) = (recN s).1) :
    batB (nbn (nrd s 6).1) L = unpB s := by
  have hb := unp_body h0 h1 h2 h3
  have hn : (recN s).1.length = (cntN s).toNat := rrd_len _ h2
  have hl : L.length = (recN s).1.length := by rw [← hL, List.length_map]
  have hz : (bodyL (nbn (nrd s 6).1) L).length = s.size := by
    rw [bodyL_R, hL, ← hb]
    rfl
  unfold batB unpB
  rw [goodL_eq, rrd_all hL, placedL_map, hL, hz, decide_eq_true (by omega : L.length ≤ 50), decide_eq_true hs, decide_eq_true h0, decide_eq_true (⟨h1, hc⟩ : 0 ≤ cntN s ∧ cntN s ≤ 50), decide_eq_true h2, decide_eq_true h3]
  simp
/- What was written is read. -/
theorem putsL_split (ns : List Int) (k : Nat) : putsL ns = putsL (ns.take k) ++ putsL (ns.drop k) := by
  unfold putsL
  rw [← List.flatMap_append, List.take_append_drop]
theorem rest_of {s : ByteArray} {a l : List UInt8} (h : s.data.toList = a ++ l) : Rest s a.length l := by
  have hl := congrArg List.length h
  have hz : s.data.toList.length = s.size := rfl
  rw [List.length_append, hz] at hl
  refine ⟨by omega, by omega, ?_⟩
  rw [h, Int.toNat_natCast, List.drop_left]
theorem nrd_puts {s : ByteArray} {ns : List Int} {l : List UInt8} (h : s.data.toList = putsL ns ++ l) (hr : ∀ x ∈ ns, -9223372036854775808 ≤ x ∧ x ≤ 9223372036854775807) : ∀ k, k ≤ ns.length → nrd s k = (ns.take k, ((putsL (ns.take k)).length : Int), 0)
  | 0, _ => rfl
  | k + 1, hk => by
    have ih := nrd_puts h hr k (by omega)
    have hkk : k < ns.length := hk
    have hs : ns.take (k + 1) = ns.take k ++ [ns[k]] := List.take_succ_eq_append_getElem hkk
    have e : s.data.toList = putsL (ns.take k) ++ (putL ns[k] ++ (putsL (ns.drop (k + 1)) ++ l)) := by
      rw [h, putsL_split ns (k + 1), hs, putsL_snoc]
      simp only [List.append_assoc]
    have g := get_rest (rest_of e) (hr _ (List.getElem_mem hkk)).1 (hr _ (List.getElem_mem hkk)).2
    unfold nrd
    rw [ih]
    simp only
    rw [if_neg (by simp), g, hs, putsL_snoc, List.length_append]
    simp
theorem rrd_encs {s : ByteArray} {q : Int} {R : List Rec} {l : List UInt8} (h : Rest s q (R.flatMap encL ++ l)) (hr : ∀ x ∈ R, okRec x = true) : ∀ k, k ≤ R.length → rrd s q k = (R.take k, q + (((R.take k).flatMap encL).length : Int), 0) ∧ Rest s (q + (((R.take k).flatMap encL).length : Int)) ((R.drop k).flatMap encL ++ l)
  | 0, _ => ⟨by simp [rrd], by simpa using h⟩
  | k + 1, hk => by
    obtain ⟨ih, ir⟩ := rrd_encs h hr k (by omega)
    have hkk : k < R.length := hk
    have hs : R.take (k + 1) = R.take k ++ [R[k]] := List.take_succ_eq_append_getElem hkk
    have hd : R.drop k = R[k] :: R.drop (k + 1) := List.drop_eq_getElem_cons hkk
    rw [hd, List.flatMap_cons, List.append_assoc] at ir
    have g := dec_enc (hr _ (List.getElem_mem hkk)) ir
    have hn := ir.next
    have hq : q + (((R.take (k + 1)).flatMap encL).length : Int) = q + (((R.take k).flatMap encL).length : Int) + ((encL R[k]).length : Int) := by
      rw [hs, List.flatMap_append, List.length_append]
      simp
      omega
    refine ⟨?_, by rw [hq]; exact hn⟩
    unfold rrd
    rw [ih]
    simp only
    rw [if_neg (by simp), g]
    simp only
    rw [if_neg (by simp), hs, ← hs, hq]
theorem numsI_range {b : BN} {n : Nat} (h : numB b = true) (hn : n ≤ 50) : ∀ x ∈ numsI b n, -9223372036854775808 ≤ x ∧ x ≤ 9223372036854775807 := by
  obtain ⟨r1, r2, r3, r4, r5⟩ := numB_range h
  intro x hx
  unfold numsI at hx
  simp at hx
  rcases hx with rfl | rfl | rfl | rfl | rfl | rfl <;> omega
theorem unp_back {b : BN} {L : List RX} (h : batB b L = true) : unpB (bodyB b L) = true ∧ nbn (nrd (bodyB b L) 6).1 = b ∧ (recN (bodyB b L)).1 = L.map (·.1) := by
  have hsz := batB_size h
  have h' := h
  unfold batB at h'
  simp only [Bool.and_eq_true, decide_eq_true_eq] at h'
  obtain ⟨hn, h50, hg, _⟩ := h'
  rw [goodL_eq] at hg
  simp only [Bool.and_eq_true] at hg
  have hall : ∀ x ∈ L.map (·.1), okRec x = true := by
    intro x hx
    obtain ⟨y, hy, rfl⟩ := List.mem_map.1 hx
    exact List.all_eq_true.1 hg.2 y hy
  have e : (bodyB b L).data.toList = putsL (numsI b L.length) ++ (L.map (·.1)).flatMap encL := by
    show (bodyL b L).toArray.toList = _
    rw [bodyL_R, putsL_all]
    simp [bodyR]
  have hk := nrd_puts e (numsI_range hn h50) 6 (by simp [numsI])
  rw [show (numsI b L.length).take 6 = numsI b L.length from rfl] at hk
  have hcn : cntN (bodyB b L) = L.length := by unfold cntN; rw [hk]; rfl
  have hR := rest_of e
  have hrr := rrd_encs (l := []) (by simpa using hR) hall L.length (by simp)
  rw [List.take_of_length_le (by simp)] at hrr
  have hrn : recN (bodyB b L) = (L.map (·.1), ((putsL (numsI b L.length)).length : Int) + (((L.map (·.1)).flatMap encL).length : Int), 0) := by
    unfold recN
    rw [hcn, Int.toNat_natCast, hk]
    exact hrr.1
  have hz : ((putsL (numsI b L.length)).length : Int) + (((L.map (·.1)).flatMap encL).length : Int) = (bodyB b L).size := by
    have := congrArg List.length e
    rw [List.length_append] at this
    have hz2 : (bodyB b L).data.toList.length = (bodyB b L).size := rfl
    omega
  have hnb : nbn (nrd (bodyB b L) 6).1 = b := by rw [hk]; rfl
  refine ⟨?_, hnb, by rw [hrn]⟩
  have hi := inner_last (s := bodyB b L) (L := L) hsz (by rw [hk]) (by rw [hcn]; omega) (by rw [hcn]; omega) (by rw [hrn]) (by rw [hrn]; exact hz) (by rw [hrn])
  rw [hnb, h] at hi
  exact hi.symm
end Go.Proofs.YtjnphajkoopkgaaGreatDoor
