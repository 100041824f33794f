/- The program's unpack: records in new memory; the walk. No condition but the body's length. -/
import Derived.Test.YtmhamfhhojmeoaaDoorBatUnp
import Derived.Maps.AppendAt
import Derived.Deep.RegionHeld3
namespace Go.Proofs.YtmhamfhhojmeoaaDoor
open Go.RowKit
set_option linter.unusedVariables false
def recsC (L : List RX) : List Value := L.flatMap fun x => (recC x.1 x.2.1 x.2.2).toList
theorem recsC_snoc (L : List RX) (x : RX) : recsC (L ++ [x]) = recsC L ++ (recC x.1 x.2.1 x.2.2).toList := by simp [recsC]
/-- Records in memory of the call's own. -/
structure RowR (w : World) (base : Nat) (v : Value) (L : List RX) : Prop where
  row : w.ownsRow base 49 7 v L.length (recsC L)
  heads : ∀ x ∈ L, w.ownsRow base 51 2 (.slice x.2.1 x.1.heads.length x.2.2) x.1.heads.length (headCells x.1.heads)
section
variable {w w' : World} {base : Nat} {v : Value} {L : List RX}
theorem RowR.nil (w : World) (base : Nat) : RowR w base (.slice none 0 0) [] := ⟨World.ownsRow_nil _ _ _ _, fun x hx => by cases hx⟩
theorem RowR.later (h : RowR w base v L) (hb : Below w.heap.size w w') : RowR w' base v L := ⟨own_below h.row hb, fun x hx => own_below (h.heads x hx) hb⟩
/-- A store into a block of another type. -/
theorem RowR.set {b t : Nat} {cs : Array Value} (h : RowR w base v L) (hb : Box w b t cs) (h1 : t ≠ 49) (h2 : t ≠ 51) (i : Nat) (u : Value) : RowR (w.setCell ⟨b, i, none⟩ u) base v L :=
  ⟨own_off h.row (Off.one w ⟨b, i, none⟩ u) (own_ne h.row hb h1), fun x hx => own_off (h.heads x hx) (Off.one w ⟨b, i, none⟩ u) (own_ne (h.heads x hx) hb h2)⟩
/-- Two rows of other types are two. -/
theorem own_two {b1 b2 n1 n2 z1 z2 : Nat} {t1 t2 : TypeId} {v1 v2 : Value} {x1 x2 : List Value} (h1 : w.ownsRow b1 t1 z1 v1 n1 x1) (h2 : w.ownsRow b2 t2 z2 v2 n2 x2) (hne : t1 ≠ t2) : v1.ownBlock = none ∨ v1.ownBlock ≠ v2.ownBlock := by
  rcases h1.2 with ⟨rfl, _⟩ | ⟨g, cap, cur, rfl, _, hg, _⟩
  · exact .inl rfl
  · refine .inr fun e => ?_
    rcases h2.2 with ⟨rfl, _⟩ | ⟨g2, cap2, cur2, rfl, _, hg2, _⟩
    · cases e
    · have : g = g2 := by simpa [Value.ownBlock] using e
      subst this
      rw [hg] at hg2
      injection hg2 with e2
      injection e2 with _ e3 _
      exact hne e3
theorem RowR.grow {v' : Value} {x : RX} (h : RowR w base v L) (hh : w.ownsRow base 51 2 (.slice x.2.1 x.1.heads.length x.2.2) x.1.heads.length (headCells x.1.heads))
    (ho : w'.ownsRow base 49 7 v' (L.length + 1) (recsC L ++ (recC x.1 x.2.1 x.2.2).toList)) (hg : w.grownBy w' v.ownBlock) : RowR w' base v' (L ++ [x]) := by
  refine ⟨by rw [recsC_snoc, List.length_append]; exact ho, fun y hy => ?_⟩
  rw [List.mem_append] at hy
  rcases hy with hy | hy
  · exact (h.heads y hy).kept hg (own_two (h.heads y hy) h.row (by decide))
  · simp at hy
    subst hy
    exact hh.kept hg (own_two hh h.row (by decide))
end
theorem news_at {w : World} {g : Nat} {t : TypeId} {cs : Array Value} (h : Box w g t cs) : ∀ j u, cs.toList[j]? = some u → w.cell? ((⟨g, 0, none⟩ : Addr).add j) = some u := by
  intro j u hu
  have e1 : (⟨g, 0, none⟩ : Addr).add j = ⟨g, j, none⟩ := by unfold Addr.add; split <;> simp_all
  rw [e1, h.cell j]
  simpa using hu
theorem recInfo : (Tryd.prog.info? 49).map (fun i => (i.zero, i.size, i.bytes)) = some (some (.agg #[.int .i64 0, .int .i64 0, .bool false, .string ⟨#[]⟩, .bool false, .string ⟨#[]⟩, .slice none 0 0]), 7, 88) := by kernel_rfl
theorem rec_one (r : Rec) (A : Option Addr) (c : Nat) : ∀ u ∈ (recC r A c).toList, u.oneCell' = true := by
  intro u hu
  unfold recC at hu
  simp at hu
  rcases hu with rfl | rfl | rfl | rfl | rfl | rfl | rfl <;> rfl
theorem rrd_len {s : ByteArray} {q : Int} : ∀ k, (rrd s q k).2.2 = 0 → (rrd s q k).1.length = k
  | 0, _ => rfl
  | k + 1, h => by
    unfold rrd at h ⊢
    split at h
    · rename_i h1; exact absurd h h1
    · rename_i h1
      rw [if_neg h1]
      split at h
      · rename_i h2; exact absurd h h2
      · rename_i h2
        rw [if_neg h2]
        have := rrd_len k (by simpa using h1)
        simp [this]
theorem nrd_len {s : ByteArray} : ∀ k, (nrd s k).2.2 = 0 → (nrd s k).1.length = k
  | 0, _ => rfl
  | k + 1, h => by
    unfold nrd at h ⊢
    split at h
    · rename_i h1; exact absurd h h1
    · rename_i h1
      rw [if_neg h1]
      have := nrd_len k (by simpa using h1)
      simp [this]
def placedR (span : Int) : Int → List Rec → Bool
  | _, [] => true
  | last, r :: l => decide (last < r.place) && decide (r.place < span) && placedR span r.place l
theorem placedL_map (span : Int) : ∀ (L : List RX) (last : Int), placedL span last L = placedR span last (L.map (·.1))
  | [], _ => rfl
  | x :: l, last => by
    show (_ && _ && placedL span x.1.place l) = _
    rw [placedL_map span l]
    rfl
def cntN (s : ByteArray) : Int := (nrd s 6).1.getD 5 0
def recN (s : ByteArray) : List Rec × Int × Int := rrd s (nrd s 6).2.1 (cntN s).toNat
/-- What unpack says of a body. -/
def unpB (s : ByteArray) : Bool :=
  decide ((nrd s 6).2.2 = 0) && (decide (0 ≤ cntN s ∧ cntN s ≤ 50) && (decide ((recN s).2.2 = 0) && (decide ((recN s).2.1 = (s.size : Int)) && (numB (nbn (nrd s 6).1) && placedR (nbn (nrd s 6).1).span (-1) (recN s).1))))
/-- What unpack leaves. -/
def GotUn (W : World) (ok : Bool) (b : BN) (R : List Rec) (en : Ending) (w' : World) : Prop :=
  ∃ (b' : BN) (A : Option Addr) (n c : Nat), en = .returned (.tuple #[.agg (bnC b' (.slice A n c)), .bool ok]) ∧ (ok = true → b' = b ∧ ∃ L : List RX, L.map (·.1) = R ∧ n = L.length ∧ RowR w' W.heap.size (.slice A n c) L) ∧ Below W.heap.size W w'
theorem GotUn.zero {W w' : World} {b : BN} {R : List Rec} (h : Below W.heap.size W w') : GotUn W false b R (.returned (.tuple #[.agg zeroB, .bool false])) w' :=
  ⟨⟨0, 0, 0, 0, 0⟩, none, 0, 0, rfl, (fun e => by cases e), h⟩
/-- The zero batch stored where it stands. -/
def zset (w : World) (g : Nat) : World := (((((w.setCell ⟨g, 0, none⟩ (.int .i64 0)).setCell ⟨g, 1, none⟩ (.int .i64 0)).setCell ⟨g, 2, none⟩ (.int .i64 0)).setCell ⟨g, 3, none⟩ (.int .i64 0)).setCell ⟨g, 4, none⟩ (.int .i64 0)).setCell ⟨g, 5, none⟩ (.slice none 0 0)
def bset (w : World) (g : Nat) (v0 v1 v2 v3 v4 v5 : Value) : World := (((((w.setCell ⟨g, 0, none⟩ v0).setCell ⟨g, 1, none⟩ v1).setCell ⟨g, 2, none⟩ v2).setCell ⟨g, 3, none⟩ v3).setCell ⟨g, 4, none⟩ v4).setCell ⟨g, 5, none⟩ v5
theorem bset_box {w : World} {g t : Nat} {z0 z1 z2 z3 z4 z5 : Value} (h : Box w g t #[z0, z1, z2, z3, z4, z5]) (v0 v1 v2 v3 v4 v5 : Value) : Box (bset w g v0 v1 v2 v3 v4 v5) g t #[v0, v1, v2, v3, v4, v5] := by
  unfold bset
  have h0 : Box _ g t #[v0, z1, z2, z3, z4, z5] := h.set 0 v0
  have h1 : Box _ g t #[v0, v1, z2, z3, z4, z5] := h0.set 1 v1
  have h2 : Box _ g t #[v0, v1, v2, z3, z4, z5] := h1.set 2 v2
  have h3 : Box _ g t #[v0, v1, v2, v3, z4, z5] := h2.set 3 v3
  have h4 : Box _ g t #[v0, v1, v2, v3, v4, z5] := h3.set 4 v4
  have h5 : Box _ g t #[v0, v1, v2, v3, v4, v5] := h4.set 5 v5
  exact h5
theorem bset_off (w : World) (g : Nat) (v0 v1 v2 v3 v4 v5 : Value) : Off (· = g) w (bset w g v0 v1 v2 v3 v4 v5) := by
  unfold bset
  have h0 := Off.refl (· = g) w
  have h1 := h0.set (p := ⟨g, 0, none⟩) (.inl rfl) v0
  have h2 := h1.set (p := ⟨g, 1, none⟩) (.inl rfl) v1
  have h3 := h2.set (p := ⟨g, 2, none⟩) (.inl rfl) v2
  have h4 := h3.set (p := ⟨g, 3, none⟩) (.inl rfl) v3
  have h5 := h4.set (p := ⟨g, 4, none⟩) (.inl rfl) v4
  have h6 := h5.set (p := ⟨g, 5, none⟩) (.inl rfl) v5
  exact h6
theorem box_six {w : World} {g t : Nat} {v0 v1 v2 v3 v4 v5 : Value} (h : Box w g t #[v0, v1, v2, v3, v4, v5]) : w.cell? ⟨g, 0, none⟩ = some v0 ∧ w.cell? ⟨g, 1, none⟩ = some v1 ∧ w.cell? ⟨g, 2, none⟩ = some v2 ∧ w.cell? ⟨g, 3, none⟩ = some v3 ∧ w.cell? ⟨g, 4, none⟩ = some v4 ∧ w.cell? ⟨g, 5, none⟩ = some v5 ∧
    w.frozen? ⟨g, 0, none⟩ = false ∧ w.frozen? ⟨g, 1, none⟩ = false ∧ w.frozen? ⟨g, 2, none⟩ = false ∧ w.frozen? ⟨g, 3, none⟩ = false ∧ w.frozen? ⟨g, 4, none⟩ = false ∧ w.frozen? ⟨g, 5, none⟩ = false :=
  ⟨by rw [h.cell]; rfl, by rw [h.cell]; rfl, by rw [h.cell]; rfl, by rw [h.cell]; rfl, by rw [h.cell]; rfl, by rw [h.cell]; rfl, h.frozen 0, h.frozen 1, h.frozen 2, h.frozen 3, h.frozen 4, h.frozen 5⟩
theorem below_off {W w w' : World} {g : Nat} (h : Below W.heap.size W w) (ho : Off (· = g) w w') (hg : W.heap.size ≤ g) : Below W.heap.size W w' := h.trans (ho.below h.size (fun k e => by rw [e]; exact hg))
theorem UpAt.grown {W w w' : World} {bc : Array Value} {cn : Int} {v : Value} {n : Nat} {xs : List Value} (h : UpAt W bc cn w) (ho : w.ownsRow W.heap.size 49 7 v n xs) (hg : w.grownBy w' v.ownBlock) : UpAt W bc cn w' := by
  have k : ∀ {b t : Nat} {cs : Array Value}, Box w b t cs → t ≠ 49 → Box w' b t cs := fun hb hne => (hg.block _ hb.lt (fun e => own_ne ho hb hne _ e.symm rfl)).trans hb
  exact ⟨k h.res (by decide), k h.bat (by decide), k h.cnt (by decide), h.bel.grown hg h.bel.size (fun j e => (ho.lt j e).1)⟩
theorem recsC_at : ∀ {L : List RX} {j i : Nat} {x : RX}, L[j]? = some x → i < 7 → (recsC L)[j * 7 + i]? = (recC x.1 x.2.1 x.2.2)[i]?
  | [], j, i, x, h, _ => by cases h
  | y :: l, 0, i, x, h, hi => by
    have e : y = x := by simpa using h
    subst e
    have hl : (recC y.1 y.2.1 y.2.2).toList.length = 7 := rfl
    show ((recC y.1 y.2.1 y.2.2).toList ++ recsC l)[0 * 7 + i]? = _
    rw [List.getElem?_append_left (by omega), Nat.zero_mul, Nat.zero_add, Array.getElem?_toList]
  | y :: l, j + 1, i, x, h, hi => by
    have hl : (recC y.1 y.2.1 y.2.2).toList.length = 7 := rfl
    show ((recC y.1 y.2.1 y.2.2).toList ++ recsC l)[(j + 1) * 7 + i]? = _
    rw [List.getElem?_append_right (by omega), hl, show (j + 1) * 7 + i - 7 = j * 7 + i by omega]
    exact recsC_at (by simpa using h) hi
structure UnS (W : World) (b : BN) (A : Option Addr) (c : Nat) (L : List RX) (w : World) : Prop where
  res : ∃ v0 v1 v2 v3 v4 v5, Box w W.heap.size 24 #[v0, v1, v2, v3, v4, v5]
  bat : Box w (W.heap.size + 1) 24 (bnC b (.slice A L.length c))
  row : RowR w W.heap.size (.slice A L.length c) L
  rin : RsIn w A L
  bel : Below W.heap.size W w
section
variable {W w w' : World} {base span prod epoch seq : Int} {A : Option Addr} {c : Nat} {L : List RX}
theorem UnS.cells (h : UnS W ⟨base, span, prod, epoch, seq⟩ A c L w) : (fun w => w.cell? ⟨W.heap.size + 1, 0, none⟩ = some (.int .i64 base) ∧ w.cell? ⟨W.heap.size + 1, 1, none⟩ = some (.int .i64 span) ∧ w.cell? ⟨W.heap.size + 1, 2, none⟩ = some (.int .i64 prod) ∧ w.cell? ⟨W.heap.size + 1, 3, none⟩ = some (.int .i64 epoch) ∧ w.cell? ⟨W.heap.size + 1, 4, none⟩ = some (.int .i64 seq) ∧ w.cell? ⟨W.heap.size + 1, 5, none⟩ = some (.slice A L.length c) ∧ UnS W ⟨base, span, prod, epoch, seq⟩ A c L w) w :=
  ⟨by rw [h.bat.cell]; rfl, by rw [h.bat.cell]; rfl, by rw [h.bat.cell]; rfl, by rw [h.bat.cell]; rfl, by rw [h.bat.cell]; rfl, by rw [h.bat.cell]; rfl, h⟩
theorem UnS.later (h : UnS W ⟨base, span, prod, epoch, seq⟩ A c L w) (hb : Below w.heap.size w w') : UnS W ⟨base, span, prod, epoch, seq⟩ A c L w' := by
  obtain ⟨v0, v1, v2, v3, v4, v5, hr⟩ := h.res
  exact ⟨⟨v0, v1, v2, v3, v4, v5, hr.later hb⟩, h.bat.later hb, h.row.later hb, h.rin.below hb, h.bel.trans (hb.mono h.bel.size)⟩
theorem un_later (h : (fun w => w.cell? ⟨W.heap.size + 1, 0, none⟩ = some (.int .i64 base) ∧ w.cell? ⟨W.heap.size + 1, 1, none⟩ = some (.int .i64 span) ∧ w.cell? ⟨W.heap.size + 1, 2, none⟩ = some (.int .i64 prod) ∧ w.cell? ⟨W.heap.size + 1, 3, none⟩ = some (.int .i64 epoch) ∧ w.cell? ⟨W.heap.size + 1, 4, none⟩ = some (.int .i64 seq) ∧ w.cell? ⟨W.heap.size + 1, 5, none⟩ = some (.slice A L.length c) ∧ UnS W ⟨base, span, prod, epoch, seq⟩ A c L w) w) (hb : Below w.heap.size w w') : (fun w => w.cell? ⟨W.heap.size + 1, 0, none⟩ = some (.int .i64 base) ∧ w.cell? ⟨W.heap.size + 1, 1, none⟩ = some (.int .i64 span) ∧ w.cell? ⟨W.heap.size + 1, 2, none⟩ = some (.int .i64 prod) ∧ w.cell? ⟨W.heap.size + 1, 3, none⟩ = some (.int .i64 epoch) ∧ w.cell? ⟨W.heap.size + 1, 4, none⟩ = some (.int .i64 seq) ∧ w.cell? ⟨W.heap.size + 1, 5, none⟩ = some (.slice A L.length c) ∧ UnS W ⟨base, span, prod, epoch, seq⟩ A c L w) w' := (h.2.2.2.2.2.2.later hb).cells
theorem RsIn.off {S : Nat → Prop} (h : RsIn w A L) (ho : Off S w w') (hs : ∀ g, A = some g → ¬ S g.block) (hh : ∀ x ∈ L, ∀ g, x.2.1 = some g → ¬ S g.block) : RsIn w' A L := fun hp => by
  obtain ⟨b, off, rfl, hlt, hc⟩ := h hp
  have hn := hs _ rfl
  refine ⟨b, off, rfl, Nat.lt_of_lt_of_le hlt ho.size, fun j x hx => ⟨?_, ?_⟩⟩
  · obtain ⟨h0, h1, h2, h3, h4, h5, h6⟩ := (hc j x hx).1
    have k := fun i => ho.cell (p := ⟨b, i, none⟩) hlt hn
    exact ⟨(k _).trans h0, (k _).trans h1, (k _).trans h2, (k _).trans h3, (k _).trans h4, (k _).trans h5, (k _).trans h6⟩
  · obtain ⟨a1, a2, a3, a4, a5⟩ := (hc j x hx).2
    refine ⟨fun hp => ?_, a2, a3, a4, a5⟩
    obtain ⟨g, o, e, hl, hcs⟩ := a1 hp
    have hn2 := hh x (List.mem_of_getElem? hx) _ e
    refine ⟨g, o, e, Nat.lt_of_lt_of_le hl ho.size, fun i y hy => ?_⟩
    have k := fun i => ho.cell (p := ⟨g, i, none⟩) hl hn2
    exact ⟨(k _).trans (hcs i y hy).1, (k _).trans (hcs i y hy).2⟩
theorem row_ne {base' n z cap len : Nat} {t t' : TypeId} {A : Option Addr} {xs : List Value} {cs : Array Value} {b : Nat} (h : w.ownsRow base' t z (.slice A len cap) n xs) (hb : Box w b t' cs) (hne : t' ≠ t) : ∀ g, A = some g → g.block ≠ b := by
  intro g hg
  subst hg
  have := own_ne h hb hne g.block
  rcases h.2 with ⟨hv, _⟩ | ⟨g2, cap2, cur, hv, _⟩
  · cases hv
  · injection hv with e1 _ _
    injection e1 with e1
    subst e1
    exact this rfl
theorem un_set (h : (fun w => w.cell? ⟨W.heap.size + 1, 0, none⟩ = some (.int .i64 base) ∧ w.cell? ⟨W.heap.size + 1, 1, none⟩ = some (.int .i64 span) ∧ w.cell? ⟨W.heap.size + 1, 2, none⟩ = some (.int .i64 prod) ∧ w.cell? ⟨W.heap.size + 1, 3, none⟩ = some (.int .i64 epoch) ∧ w.cell? ⟨W.heap.size + 1, 4, none⟩ = some (.int .i64 seq) ∧ w.cell? ⟨W.heap.size + 1, 5, none⟩ = some (.slice A L.length c) ∧ UnS W ⟨base, span, prod, epoch, seq⟩ A c L w) w) (v0 v1 v2 v3 v4 v5 : Value) : (fun w => w.cell? ⟨W.heap.size + 1, 0, none⟩ = some (.int .i64 base) ∧ w.cell? ⟨W.heap.size + 1, 1, none⟩ = some (.int .i64 span) ∧ w.cell? ⟨W.heap.size + 1, 2, none⟩ = some (.int .i64 prod) ∧ w.cell? ⟨W.heap.size + 1, 3, none⟩ = some (.int .i64 epoch) ∧ w.cell? ⟨W.heap.size + 1, 4, none⟩ = some (.int .i64 seq) ∧ w.cell? ⟨W.heap.size + 1, 5, none⟩ = some (.slice A L.length c) ∧ UnS W ⟨base, span, prod, epoch, seq⟩ A c L w) (bset w W.heap.size v0 v1 v2 v3 v4 v5) := by
  have hh := h.2.2.2.2.2.2
  obtain ⟨r0, r1, r2, r3, r4, r5, hr⟩ := hh.res
  have ho := bset_off w W.heap.size v0 v1 v2 v3 v4 v5
  refine UnS.cells ⟨⟨_, _, _, _, _, _, bset_box hr _ _ _ _ _ _⟩, hh.bat.off ho (by omega), ⟨own_off hh.row.row ho (fun k e => own_ne hh.row.row hr (by decide) k e), fun x hx => own_off (hh.row.heads x hx) ho (fun k e => own_ne (hh.row.heads x hx) hr (by decide) k e)⟩, ?_, below_off hh.bel ho (Nat.le_refl _)⟩
  exact hh.rin.off ho (row_ne hh.row.row hr (by decide)) (fun x hx => row_ne (hh.row.heads x hx) hr (by decide))
end
theorem decR_okR {s : ByteArray} {p : Int} (h : (decR s p).2.2 = 0) : okRec (decR s p).1 = true := by
  unfold decR at h ⊢
  split at h
  · rename_i h1; exact absurd h h1
  · rename_i h1
    rw [if_neg h1]
    split at h
    · rename_i h2
      rw [if_pos h2]
      unfold rdRight at h2
      exact (Bool.and_eq_true_iff.1 h2).2
    · simp at h
theorem rrd_ok {s : ByteArray} {q : Int} : ∀ k, ∀ r ∈ (rrd s q k).1, okRec r = true
  | 0, r, hr => by cases hr
  | k + 1, r, hr => by
    unfold rrd at hr
    split at hr
    · exact rrd_ok k r hr
    · split at hr
      · exact rrd_ok k r hr
      · rename_i h2
        rw [List.mem_append] at hr
        rcases hr with hr | hr
        · exact rrd_ok k r hr
        · simp at hr
          subst hr
          exact decR_okR (by simpa using h2)
theorem okRec_rin {w : World} {r : Rec} {A : Option Addr} {c : Nat} (h : okRec r = true) (hh : HIn w A r.heads) : RIn w r A c := by
  obtain ⟨_, ⟨k1, v1⟩, m1, ha⟩ := okRec_parts h
  refine ⟨hh, by omega, by omega, by omega, fun x hx => ?_⟩
  have := List.all_eq_true.1 ha x hx
  unfold okHead at this
  simp only [decide_eq_true_eq] at this
  omega
theorem RowR.rsin {w : World} {base c : Nat} {A : Option Addr} {L : List RX} (h : RowR w base (.slice A L.length c) L) (hok : ∀ x ∈ L, okRec x.1 = true) : RsIn w A L := fun hp => by
  have hrow := h.row
  rcases hrow.2 with ⟨hv, h0⟩ | ⟨g, cap, cur, hv, hg, hh, h4, h5, h6, h7⟩
  · omega
  · injection hv with e1 _ _
    refine ⟨g, 0, e1, lt_of_there hh, fun j x hx => ?_⟩
    have hj : j < L.length := (List.getElem?_eq_some_iff.1 hx).1
    have k : ∀ i, i < 7 → w.cell? ⟨g, 0 + j * 7 + i, none⟩ = (recsC L)[j * 7 + i]? := fun i hi => by
      subst e1
      have := hrow.cellAt (j * 7 + i) (by omega)
      rw [show 0 + j * 7 + i = j * 7 + i by omega]
      exact this
    have k2 : ∀ i, i < 7 → (recsC L)[j * 7 + i]? = (recC x.1 x.2.1 x.2.2)[i]? := fun i hi => recsC_at hx hi
    have hokx := hok x (List.mem_of_getElem? hx)
    refine ⟨⟨?_, ?_, ?_, ?_, ?_, ?_, ?_⟩, okRec_rin hokx (hin_of_own (h.heads x (List.mem_of_getElem? hx)))⟩
    · exact (k 0 (by decide)).trans ((k2 0 (by decide)).trans rfl)
    · exact (k 1 (by decide)).trans ((k2 1 (by decide)).trans rfl)
    · exact (k 2 (by decide)).trans ((k2 2 (by decide)).trans rfl)
    · exact (k 3 (by decide)).trans ((k2 3 (by decide)).trans rfl)
    · exact (k 4 (by decide)).trans ((k2 4 (by decide)).trans rfl)
    · exact (k 5 (by decide)).trans ((k2 5 (by decide)).trans rfl)
    · exact (k 6 (by decide)).trans ((k2 6 (by decide)).trans rfl)
theorem recC_zero : (Value.agg #[.int .i64 0, .int .i64 0, .bool false, .string ⟨#[]⟩, .bool false, .string ⟨#[]⟩, .slice none 0 0]).cells.size = 7 := rfl
set_option maxHeartbeats 16000000 in
set_option maxRecDepth 100000 in
theorem unpack_c (s : ByteArray) (W : World) (hs : s.size ≤ 140737488351232) : Calls Tryd.prog 33 #[.string s] W (GotUn W (unpB s) (nbn (nrd s 6).1) (recN s).1) := by
  obtain ⟨W0, hW0⟩ : ∃ w, (((W.alloc (.cells zeroB 24)).alloc (.cells zeroB 24)).alloc (.cells #[.int .i64 0] 3)).alloc (.cells (ptrsC W) 82) = w := ⟨_, rfl⟩
  have hU : UpAt W zeroB 0 W0 := by
    rw [← hW0]
    refine ⟨?_, ?_, ?_, ((((Below.refl _ W).alloc (Nat.le_refl _) _).alloc (by simp) _).alloc (by simp; omega) _).alloc (by simp; omega) _⟩
    · exact (((Box.new W 24 zeroB).alloc _).alloc _).alloc _
    · have := Box.new (W.alloc (.cells zeroB 24)) 24 zeroB
      rw [World.size_alloc] at this
      exact (this.alloc _).alloc _
    · have := Box.new ((W.alloc (.cells zeroB 24)).alloc (.cells zeroB 24)) 3 #[.int .i64 0]
      rw [World.size_alloc, World.size_alloc] at this
      exact this.alloc _
  have hP : Box W0 (W.heap.size + 1 + 1 + 1) 82 (ptrsC W) := by
    rw [← hW0]
    have := Box.new (((W.alloc (.cells zeroB 24)).alloc (.cells zeroB 24)).alloc (.cells #[.int .i64 0] 3)) 82 (ptrsC W)
    rwa [World.size_alloc, World.size_alloc, World.size_alloc] at this
  have H0 := Lib.hid (And.intro hU hP)
  clear hU hP
  obtain ⟨ok, hok⟩ : ∃ b, unpB s = b := ⟨_, rfl⟩
  have HOK := Lib.hid hok
  rw [hok]
  clear hok
  obtain ⟨BF, hBF⟩ : ∃ b, nbn (nrd s 6).1 = b := ⟨_, rfl⟩
  obtain ⟨RF, hRF⟩ : ∃ b, (recN s).1 = b := ⟨_, rfl⟩
  have HF := Lib.hid (And.intro hBF hRF)
  rw [hBF, hRF]
  clear hBF hRF
  unfold zeroB ptrsC at hW0
  go_enter Tryd.func33, Tryd.ntmps33
  go_wp2_with fail
  clear hW0
  go_loopw [6, 20] (fun q i wr => ∃ k : Nat, i = .int .i64 k ∧ k ≤ 6 ∧ (nrd s k).2.2 = 0 ∧ q = .int .i64 (nrd s k).2.1 ∧ UpAt W (bnC (nbn (nrd s k).1) (.slice none 0 0)) ((nrd s k).1.getD 5 0) wr ∧ Box wr (W.heap.size + 1 + 1 + 1) 82 (ptrsC W)) (fun _ i _ => 6 - (intOf i).toNat)
  case atStart => exact ⟨0, rfl, by decide, rfl, rfl, H0.out.1, H0.out.2⟩
  case round =>
    obtain ⟨k, rfl, hk6, he0, rfl, hU, hP⟩ := hrel
    clear H0
    by_cases hk : k < 6
    · obtain ⟨tb, ti, v0, p1, p2, p3, p4, p5⟩ := slot_of hk (nrd_len k he0) hU hP
      have cg := fun w => get_c s (nrd s k).2.1 w (by omega)
      have hsuc : nrd s (k + 1) = ((nrd s k).1 ++ [(getG s (nrd s k).2.1).1], (getG s (nrd s k).2.1).2.1, (getG s (nrd s k).2.1).2.2) := by
        show (if (nrd s k).2.2 ≠ 0 then _ else _) = _
        rw [if_neg (by simpa using he0)]
      have HS := Lib.hid hsuc
      have HP5 := Lib.hid p5
      have hki : (k : Int) < 6 := by omega
      unfold Tri at cg
      obtain ⟨x, hx⟩ : ∃ x, (getG s (nrd s k).2.1).1 = x := ⟨_, rfl⟩
      obtain ⟨q2, hq2⟩ : ∃ x, (getG s (nrd s k).2.1).2.1 = x := ⟨_, rfl⟩
      obtain ⟨e2, he2⟩ : ∃ x, (getG s (nrd s k).2.1).2.2 = x := ⟨_, rfl⟩
      rw [hx, hq2, he2] at cg HS
      clear hx hq2 he2 hsuc p5 hU hP
      by_cases hee : e2 = 0
      · subst hee
        go_wp2_with fail
        (with_reducible refine (cg _).mono ?_)
        rintro e w1 ⟨rfl, rfl⟩
        have HX := Lib.hid (HP5.out x)
        clear HP5 cg
        go_wp2
        go_roundw
        case rel => exact ⟨k + 1, by go_num, hk, by rw [HS.out], by rw [HS.out], by rw [HS.out]; exact HX.out.1, HX.out.2⟩
        case measure => simp [intOf]; omega
      · have hee' : (e2 == 0) = false := by rw [beq_eq_false_iff_ne]; exact hee
        have hee2 : (e2 != 0) = true := by simpa using hee
        have hbad : ok = false := by
          rw [← HOK.out]
          unfold unpB
          have h6 : nrd s 6 = nrd s (k + 1) := by
            have := nrd_stop (s := s) (k := k + 1) (by rw [HS.out]; exact hee) (6 - (k + 1))
            rw [← this]
            congr 1
            omega
          rw [h6, HS.out, decide_eq_false hee]
          rfl
        subst hbad
        clear hee
        go_wp2_with fail
        (with_reducible refine (cg _).mono ?_)
        rintro e w1 ⟨rfl, rfl⟩
        have HX := Lib.hid (HP5.out x)
        clear HP5 cg
        have hbz := (HX.out.1.res : Box _ _ _ #[.int .i64 0, .int .i64 0, .int .i64 0, .int .i64 0, .int .i64 0, .slice none 0 0])
        obtain ⟨y0, y1, y2, y3, y4, y5, f0, f1, f2, f3, f4, f5⟩ := box_six hbz
        clear hbz
        go_wp2_with fail
        refine bodyPost_ret (v := .tuple #[.agg #[.int .i64 0, .int .i64 0, .int .i64 0, .int .i64 0, .int .i64 0, .slice none 0 0], .bool false]) ?_ rfl ?_
        · exact unp_result W.heap.size (bset_box (show Box _ _ _ #[.int .i64 0, .int .i64 0, .int .i64 0, .int .i64 0, .int .i64 0, .slice none 0 0] from HX.out.1.res) _ _ _ _ _ _) _ rfl rfl
        · exact GotUn.zero (below_off HX.out.1.bel (bset_off _ _ _ _ _ _ _ _) (Nat.le_refl _))
    · obtain rfl : k = 6 := by omega
      have hlen := nrd_len 6 he0
      have HE := Lib.hid (show unpB s = (decide (0 ≤ cntN s ∧ cntN s ≤ 50) && (decide ((recN s).2.2 = 0) && (decide ((recN s).2.1 = (s.size : Int)) && (numB (nbn (nrd s 6).1) && placedR (nbn (nrd s 6).1).span (-1) (recN s).1)))) by unfold unpB; rw [decide_eq_true he0]; rfl)
      have HU := Lib.hid hU
      have hcn : (nrd s 6).1.getD 5 0 = cntN s := rfl
      rw [hcn] at HU
      have hrn : recN s = rrd s (nrd s 6).2.1 (cntN s).toNat := rfl
      have HRN := Lib.hid hrn
      rw [HF.out.1] at HU HE
      clear hU hP he0 hlen hcn hrn hk hk6
      generalize (nrd s 6).2.1 = q0 at *
      generalize cntN s = n at *
      have yc := (HU.out.cnt.cell 0).trans rfl
      simp only [List.getElem?_toArray, List.getElem?_cons_zero] at yc
      have hbz := (HU.out.res : Box _ _ _ #[.int .i64 0, .int .i64 0, .int .i64 0, .int .i64 0, .int .i64 0, .slice none 0 0])
      obtain ⟨y0, y1, y2, y3, y4, y5, f0, f1, f2, f3, f4, f5⟩ := box_six hbz
      clear hbz
      by_cases hn0 : n < 0
      · have hbad : ok = false := by rw [← HOK.out, HE.out, decide_eq_false (by omega)]; rfl
        subst hbad
        go_wp2_with fail
        refine bodyPost_ret (v := .tuple #[.agg #[.int .i64 0, .int .i64 0, .int .i64 0, .int .i64 0, .int .i64 0, .slice none 0 0], .bool false]) ?_ rfl ?_
        · exact unp_result W.heap.size (bset_box (show Box _ _ _ #[.int .i64 0, .int .i64 0, .int .i64 0, .int .i64 0, .int .i64 0, .slice none 0 0] from HU.out.res) _ _ _ _ _ _) _ rfl rfl
        · exact GotUn.zero (below_off HU.out.bel (bset_off _ _ _ _ _ _ _ _) (Nat.le_refl _))
      · by_cases hn1 : 50 < n
        · have hbad : ok = false := by rw [← HOK.out, HE.out, decide_eq_false (by omega)]; rfl
          subst hbad
          go_wp2_with fail
          refine bodyPost_ret (v := .tuple #[.agg #[.int .i64 0, .int .i64 0, .int .i64 0, .int .i64 0, .int .i64 0, .slice none 0 0], .bool false]) ?_ rfl ?_
          · exact unp_result W.heap.size (bset_box (show Box _ _ _ #[.int .i64 0, .int .i64 0, .int .i64 0, .int .i64 0, .int .i64 0, .slice none 0 0] from HU.out.res) _ _ _ _ _ _) _ rfl rfl
          · exact GotUn.zero (below_off HU.out.bel (bset_off _ _ _ _ _ _ _ _) (Nat.le_refl _))
        · obtain ⟨m, rfl⟩ : ∃ m : Nat, n = m := ⟨n.toNat, by omega⟩
          rw [decide_eq_true (by omega), Bool.true_and] at HE
          rw [Int.toNat_natCast] at HRN
          clear y0 y1 y2 y3 y4 y5 f0 f1 f2 f3 f4 f5
          obtain ⟨i0, hq, hqz, hqs, hqb⟩ := info_parts recInfo
          go_wp2_with fail
          go_loopw [6, 45] (fun q i wr => ∃ (k : Nat) (L : List RX) (A : Option Addr) (c : Nat), i = .int .i64 k ∧ k ≤ m ∧ (rrd s q0 k).2.2 = 0 ∧ q = .int .i64 (rrd s q0 k).2.1 ∧ L.map (·.1) = (rrd s q0 k).1 ∧ UpAt W (bnC BF (.slice A L.length c)) (m : Int) wr ∧ RowR wr W.heap.size (.slice A L.length c) L) (fun _ i _ => m - (intOf i).toNat)
          case atStart => exact ⟨0, [], none, 0, rfl, Nat.zero_le _, rfl, rfl, rfl, HU.out, RowR.nil _ _⟩
          case round =>
            obtain ⟨k, L, A, c, rfl, hkm, he0, rfl, hLm, hV, hR⟩ := hrel
            have hLk : L.length = k := by rw [← rrd_len k he0, ← hLm, List.length_map]
            clear HU yc
            by_cases hk : k < m
            · have hsuc : rrd s q0 (k + 1) = if (decR s (rrd s q0 k).2.1).2.2 ≠ 0 then ((rrd s q0 k).1, (rrd s q0 k).2.1, (decR s (rrd s q0 k).2.1).2.2) else ((rrd s q0 k).1 ++ [(decR s (rrd s q0 k).2.1).1], (decR s (rrd s q0 k).2.1).2.1, 0) := by
                show (if (rrd s q0 k).2.2 ≠ 0 then _ else _) = _
                rw [if_neg (by simpa using he0)]
              have cd := fun w => pdec_c s (rrd s q0 k).2.1 w (by omega)
              obtain ⟨r, hr⟩ : ∃ x, (decR s (rrd s q0 k).2.1).1 = x := ⟨_, rfl⟩
              obtain ⟨q2, hq2⟩ : ∃ x, (decR s (rrd s q0 k).2.1).2.1 = x := ⟨_, rfl⟩
              obtain ⟨e2, he2⟩ : ∃ x, (decR s (rrd s q0 k).2.1).2.2 = x := ⟨_, rfl⟩
              rw [hr, hq2, he2] at hsuc
              rw [hr, hq2, he2] at cd
              have HS := Lib.hid hsuc
              have HV := Lib.hid (And.intro hV hR)
              have HLM := Lib.hid (And.intro hLm hLk)
              have hki : (k : Int) < (m : Int) := by omega
              have hL50 : L.length ≤ 50 := by omega
              clear hsuc hr hq2 he2 hV hR hLm hLk he0
              obtain ⟨place, time, bare, key, gone, value, heads⟩ := r
              unfold GotDec recV recC at cd
              simp only at cd
              by_cases hee : e2 = 0
              · subst hee
                go_wp2_with fail
                (with_reducible refine (cd _).mono ?_)
                rintro en w1 ⟨A1, c1, rfl, hh, hb1⟩
                have HV1 := Lib.hid (And.intro (HV.out.1.later hb1) (HV.out.2.later hb1))
                have HH := Lib.hid (own_base hh HV.out.1.bel.size)
                clear hh hb1 HV cd
                have hal1 : Below w1.heap.size w1 (w1.alloc (.cells #[.int .i64 place, .int .i64 time, .bool bare, .string key, .bool gone, .string value, .slice A1 heads.length c1] 49)) := (Below.refl _ _).alloc (Nat.le_refl _) _
                have hal2 : Below w1.heap.size w1 ((w1.alloc (.cells #[.int .i64 place, .int .i64 time, .bool bare, .string key, .bool gone, .string value, .slice A1 heads.length c1] 49)).alloc (.cells #[.int .i64 place, .int .i64 time, .bool bare, .string key, .bool gone, .string value, .slice A1 heads.length c1] 49)) := hal1.alloc hal1.size _
                have y5 := ((HV1.out.1.later hal1).bat.cell 5).trans rfl
                unfold bnC at y5
                simp only [List.getElem?_toArray, List.getElem?_cons_zero, List.getElem?_cons_succ] at y5
                have HV2 := Lib.hid (And.intro (HV1.out.1.later hal2) (And.intro (HV1.out.2.later hal2) (own_below HH.out hal2)))
                have hrow := HV2.out.2.1.row
                have hbn := (by
                  have := Box.new (w1.alloc (.cells #[.int .i64 place, .int .i64 time, .bool bare, .string key, .bool gone, .string value, .slice A1 heads.length c1] 49)) 49 (recC ⟨place, time, bare, key, gone, value, heads⟩ A1 c1)
                  rw [World.size_alloc] at this
                  exact this : Box ((w1.alloc (.cells #[.int .i64 place, .int .i64 time, .bool bare, .string key, .bool gone, .string value, .slice A1 heads.length c1] 49)).alloc (.cells (recC ⟨place, time, bare, key, gone, value, heads⟩ A1 c1) 49)) (w1.heap.size + 1) 49 (recC ⟨place, time, bare, key, gone, value, heads⟩ A1 c1))
                have hnews := news_at hbn
                have hone := rec_one ⟨place, time, bare, key, gone, value, heads⟩ A1 c1
                have hsz2 := HV2.out.1.bel.size
                unfold recC at hnews hone
                simp only at hnews hone
                have HNW := Lib.hid (And.intro hnews hone)
                clear hal1 hal2 hbn hnews hone HV1 HH
                go_wp2_with (at_builtin; refine wpList_append_own_at _ rfl _ _ 22 rfl W.heap.size 49 i0 _ 7 88 Tryd.underlying22 hq hqz hqs hqb recC_zero (by decide) (.slice A L.length c) L.length (recsC L) rfl hrow ⟨w1.heap.size + 1, 0, none⟩ 1 1 [.int .i64 place, .int .i64 time, .bool bare, .string key, .bool gone, .string value, .slice A1 heads.length c1] rfl rfl HNW.out.1 HNW.out.2 (by unfold maxLen; omega) (by omega) hsz2 ?_)
                intro v' w2 hown' hgrow _ _
                obtain ⟨g', cap', rfl⟩ : ∃ g' cap', v' = .slice (some ⟨g', 0, none⟩) (L.length + 1) cap' := by
                  rcases hown'.2 with ⟨_, h0⟩ | ⟨g, cap, cur, hv, _⟩
                  · omega
                  · exact ⟨g, cap, hv⟩
                have HU2 := Lib.hid (HV2.out.1.grown hrow hgrow)
                have HR2 := Lib.hid (HV2.out.2.1.grow (x := (⟨place, time, bare, key, gone, value, heads⟩, A1, c1)) HV2.out.2.2 hown' hgrow)
                have z5 := (HU2.out.bat.cell 5).trans rfl
                unfold bnC at z5
                simp only [List.getElem?_toArray, List.getElem?_cons_zero, List.getElem?_cons_succ] at z5
                have hfr := HU2.out.bat.frozen 5
                have HU3 := Lib.hid (HU2.out.bset 5 (.slice (some ⟨g', 0, none⟩) (L.length + 1) cap'))
                have HR3 := Lib.hid (HR2.out.set HU2.out.bat (by decide) (by decide) 5 (.slice (some ⟨g', 0, none⟩) (L.length + 1) cap'))
                clear hown' hgrow hrow y5
                go_wp2
                go_roundw
                case rel =>
                  refine ⟨k + 1, L ++ [(⟨place, time, bare, key, gone, value, heads⟩, A1, c1)], some ⟨g', 0, none⟩, cap', by go_num, hk, ?_, ?_, ?_, ?_, ?_⟩
                  · rw [HS.out, if_neg (by simp)]
                  · rw [HS.out, if_neg (by simp)]
                  · rw [HS.out, if_neg (by simp), List.map_append, HLM.out.1]; rfl
                  · rw [List.length_append]; exact HU3.out
                  · rw [List.length_append]; exact HR3.out
                case measure => simp [intOf]; omega
              · have hee' : (e2 == 0) = false := by rw [beq_eq_false_iff_ne]; exact hee
                have hee2 : (e2 != 0) = true := by simpa using hee
                have hbad : ok = false := by
                  rw [← HOK.out, HE.out, HRN.out]
                  have h6 : rrd s q0 m = rrd s q0 (k + 1) := by
                    have := rrd_stop (s := s) (q := q0) (k := k + 1) (by rw [HS.out, if_pos hee]; exact hee) (m - (k + 1))
                    rw [← this]
                    congr 1
                    omega
                  rw [h6, HS.out, if_pos hee, decide_eq_false hee]
                  rfl
                subst hbad
                clear hee
                go_wp2_with fail
                (with_reducible refine (cd _).mono ?_)
                rintro en w1 ⟨A1, c1, rfl, hh, hb1⟩
                have HV1 := Lib.hid ((HV.out.1.later hb1).later ((Below.refl _ _).alloc (Nat.le_refl _) (.cells #[.int .i64 place, .int .i64 time, .bool bare, .string key, .bool gone, .string value, .slice A1 heads.length c1] 49)))
                clear hh hb1 HV cd
                have hbz := (HV1.out.res : Box _ _ _ #[.int .i64 0, .int .i64 0, .int .i64 0, .int .i64 0, .int .i64 0, .slice none 0 0])
                obtain ⟨y0, y1, y2, y3, y4, y5, f0, f1, f2, f3, f4, f5⟩ := box_six hbz
                clear hbz
                go_wp2_with fail
                refine bodyPost_ret (v := .tuple #[.agg #[.int .i64 0, .int .i64 0, .int .i64 0, .int .i64 0, .int .i64 0, .slice none 0 0], .bool false]) ?_ rfl ?_
                · exact unp_result W.heap.size (bset_box (show Box _ _ _ #[.int .i64 0, .int .i64 0, .int .i64 0, .int .i64 0, .int .i64 0, .slice none 0 0] from HV1.out.res) _ _ _ _ _ _) _ rfl rfl
                · exact GotUn.zero (below_off HV1.out.bel (bset_off _ _ _ _ _ _ _ _) (Nat.le_refl _))
            · obtain rfl : k = m := by omega
              have HE2 : Hid (unpB s = (decide ((rrd s q0 k).2.1 = (s.size : Int)) && (numB BF && plB BF.span L))) := Lib.hid (by
                rw [HE.out, HRN.out, decide_eq_true he0, Bool.true_and, ← hLm, ← placedL_map]
                unfold plB
                rw [decide_eq_true (by omega : L.length ≤ 50), Bool.true_and])
              have HRF : Hid (L.map (·.1) = RF) := Lib.hid (by rw [hLm, ← HRN.out]; exact HF.out.2)
              have HV := Lib.hid (And.intro hV hR)
              have hL50 : L.length ≤ 50 := by omega
              have HOKR := Lib.hid (show ∀ r ∈ L.map (·.1), okRec r = true by rw [hLm]; exact rrd_ok k)
              clear HE HRN HF hLm hLk he0 hV hR hq hqz hqs hqb
              generalize (rrd s q0 k).2.1 = q at *
              rw [HE2.out] at HOK
              have c1 := fun w => numbered_c BF (.slice A L.length c) w
              have c2 := fun w hw => placed_c BF A c L w hw (by omega)
              have hokL : ∀ x ∈ L, okRec x.1 = true := fun x hx => HOKR.out x.1 (List.mem_map.2 ⟨x, hx, rfl⟩)
              have HS0 : Hid (UnS W BF A c L wr) := Lib.hid ⟨⟨_, _, _, _, _, _, HV.out.1.res⟩, HV.out.1.bat, HV.out.2, HV.out.2.rsin hokL, HV.out.1.bel⟩
              obtain ⟨base, span, prod, epoch, seq⟩ := BF
              have hS0 := (HS0.out.later ((Below.refl _ _).drew)).cells
              unfold bnC at c1 c2
              simp only at c1 c2
              clear hokL HOKR HV
              go_wp2_with fail
              by_cases hq : q = (s.size : Int)
              · subst hq
                rw [decide_eq_true rfl, Bool.true_and] at HOK
                cases hnb : numB ⟨base, span, prod, epoch, seq⟩ with
                | false =>
                  rw [hnb] at c1 HOK
                  have hok : ok = false := by rw [← HOK.out]; rfl
                  subst hok
                  clear hnb
                  refine wp_region_held_drew (S := (fun w => w.cell? ⟨W.heap.size + 1, 0, none⟩ = some (.int .i64 base) ∧ w.cell? ⟨W.heap.size + 1, 1, none⟩ = some (.int .i64 span) ∧ w.cell? ⟨W.heap.size + 1, 2, none⟩ = some (.int .i64 prod) ∧ w.cell? ⟨W.heap.size + 1, 3, none⟩ = some (.int .i64 epoch) ∧ w.cell? ⟨W.heap.size + 1, 4, none⟩ = some (.int .i64 seq) ∧ w.cell? ⟨W.heap.size + 1, 5, none⟩ = some (.slice A L.length c) ∧ UnS W ⟨base, span, prod, epoch, seq⟩ A c L w)) (by kernel_rfl) hS0 (fun hHeld => ?_)
                  refine takeW (i := 0) (v := ?v1) rfl (by kernel_rfl) (by kernel_rfl) (by kernel_rfl) (fun _ _ _ h => h) (by kernel_rfl) hHeld ?hy1 ?rest1
                  case hy1 => (intro w hSw; (try dsimp only at hSw); go_simp; (try with_reducible rfl))
                  try simp only [Act.put, List.setIfInBounds_toArray, List.set_cons_zero, List.set_cons_succ]
                  refine takeW (i := 1) (v := ?v2) rfl (by kernel_rfl) (by kernel_rfl) (by kernel_rfl) (fun _ _ _ h => h) (by kernel_rfl) hHeld ?hy2 ?rest2
                  case hy2 => (intro w hSw; (try dsimp only at hSw); go_simp; (try with_reducible rfl))
                  try simp only [Act.put, List.setIfInBounds_toArray, List.set_cons_zero, List.set_cons_succ]
                  refine takeW (i := 2) (v := ?v3) rfl (by kernel_rfl) (by kernel_rfl) (by kernel_rfl) (fun _ _ _ h => h) (by kernel_rfl) hHeld ?hy3 ?rest3
                  case hy3 => (intro w hSw; (try dsimp only at hSw); go_simp; (try with_reducible rfl))
                  try simp only [Act.put, List.setIfInBounds_toArray, List.set_cons_zero, List.set_cons_succ]
                  refine takeW (i := 3) (v := ?v4) rfl (by kernel_rfl) (by kernel_rfl) (by kernel_rfl) (fun _ _ _ h => h) (by kernel_rfl) hHeld ?hy4 ?rest4
                  case hy4 => (intro w hSw; (try dsimp only at hSw); go_simp; (try with_reducible rfl))
                  try simp only [Act.put, List.setIfInBounds_toArray, List.set_cons_zero, List.set_cons_succ]
                  refine takeW (i := 4) (v := ?v5) rfl (by kernel_rfl) (by kernel_rfl) (by kernel_rfl) (fun _ _ _ h => h) (by kernel_rfl) hHeld ?hy5 ?rest5
                  case hy5 => (intro w hSw; (try dsimp only at hSw); go_simp; (try with_reducible rfl))
                  try simp only [Act.put, List.setIfInBounds_toArray, List.set_cons_zero, List.set_cons_succ]
                  refine takeW (i := 5) (v := ?v6) rfl (by kernel_rfl) (by kernel_rfl) (by kernel_rfl) (fun _ _ _ h => h) (by kernel_rfl) hHeld ?hy6 ?rest6
                  case hy6 => (intro w hSw; (try dsimp only at hSw); go_simp; (try with_reducible rfl))
                  try simp only [Act.put, List.setIfInBounds_toArray, List.set_cons_zero, List.set_cons_succ]
                  refine takeW (i := 6) (v := ?v7) rfl (by kernel_rfl) (by kernel_rfl) (by kernel_rfl) (fun _ _ _ h => h) (by kernel_rfl) hHeld ?hy7 ?rest7
                  case hy7 => (intro w hSw; (try dsimp only at hSw); go_simp; (try with_reducible rfl))
                  try simp only [Act.put, List.setIfInBounds_toArray, List.set_cons_zero, List.set_cons_succ]
                  refine wpAnyH_ready (rs := [7]) (by kernel_rfl) (by simp) ?_
                  refine consL rfl (by kernel_rfl) (fun K hK => ?_) AllReadyH.nil
                  go_simp
                  (with_reducible refine (c1 _).mono ?_)
                  rintro e w6 ⟨rfl, hb2⟩
                  refine hK.out _ _ (un_later hHeld hb2) (fun hHeld => ?_)
                  clear hK K hb2
                  try simp only [Act.put, List.setIfInBounds_toArray, List.set_cons_zero, List.set_cons_succ]
                  refine takeW (i := 8) (v := ?v8) rfl (by kernel_rfl) (by kernel_rfl) (by kernel_rfl) (fun _ _ _ h => h) (by kernel_rfl) hHeld ?hy8 ?rest8
                  case hy8 => (intro w hSw; (try dsimp only at hSw); go_simp; (try with_reducible rfl))
                  try simp only [Act.put, List.setIfInBounds_toArray, List.set_cons_zero, List.set_cons_succ]
                  refine takeW (i := 9) (v := ?v9) rfl (by kernel_rfl) (by kernel_rfl) (by kernel_rfl) (fun _ _ _ h => h) (by kernel_rfl) hHeld ?hy9 ?rest9
                  case hy9 => (intro w hSw; (try dsimp only at hSw); go_simp; (try with_reducible rfl))
                  try simp only [Act.put, List.setIfInBounds_toArray, List.set_cons_zero, List.set_cons_succ]
                  refine takeU (i := 10) rfl (by kernel_rfl) (by kernel_rfl) (by kernel_rfl) (fun _ _ _ h => h) (by kernel_rfl) hHeld ?_
                  try simp only [Act.put, List.setIfInBounds_toArray, List.set_cons_zero, List.set_cons_succ]
                  refine takeU (i := 11) rfl (by kernel_rfl) (by kernel_rfl) (by kernel_rfl) (fun _ _ _ h => h) (by kernel_rfl) hHeld ?_
                  try simp only [Act.put, List.setIfInBounds_toArray, List.set_cons_zero, List.set_cons_succ]
                  refine takeW (i := 12) (v := ?v10) rfl (by kernel_rfl) (by kernel_rfl) (by kernel_rfl) (fun _ _ _ h => h) (by kernel_rfl) hHeld ?hy10 ?rest10
                  case hy10 => (intro w hSw; (try dsimp only at hSw); go_simp; (try with_reducible rfl))
                  try simp only [Act.put, List.setIfInBounds_toArray, List.set_cons_zero, List.set_cons_succ]
                  obtain ⟨r0, r1, r2, r3, r4, r5, hrb⟩ := hHeld.2.2.2.2.2.2.res
                  obtain ⟨y0, y1, y2, y3, y4, y5, f0, f1, f2, f3, f4, f5⟩ := box_six hrb
                  refine wpAnyH_ready (rs := [13]) (by kernel_rfl) (by simp) ?_
                  refine consL rfl (by kernel_rfl) (fun K hK => ?_) AllReadyH.nil
                  go_simp
                  refine hK.out _ _ (un_set hHeld (.int .i64 base) (.int .i64 span) (.int .i64 prod) (.int .i64 epoch) (.int .i64 seq) (.slice A L.length c)) (fun hHeld2 => ?_)
                  clear hK K y0 y1 y2 y3 y4 y5 f0 f1 f2 f3 f4 f5
                  refine takeW (i := 14) (v := ?v11) rfl (by kernel_rfl) (by kernel_rfl) (by kernel_rfl) (fun _ _ _ h => h) (by kernel_rfl) hHeld2 ?hy11 ?rest11
                  case hy11 => (intro w hSw; (try dsimp only at hSw); go_simp; (try with_reducible rfl))
                  try simp only [Act.put, List.setIfInBounds_toArray, List.set_cons_zero, List.set_cons_succ]
                  refine wpAnyH_done (by kernel_rfl) ?_ _
                  go_wp2_with fail
                  refine bodyPost_ret (v := .tuple #[.agg #[.int .i64 base, .int .i64 span, .int .i64 prod, .int .i64 epoch, .int .i64 seq, .slice A L.length c], .bool false]) ?_ rfl ?_
                  · exact unp_result W.heap.size (bset_box hrb _ _ _ _ _ _) _ rfl rfl
                  · exact ⟨⟨base, span, prod, epoch, seq⟩, A, L.length, c, rfl, fun _ => ⟨rfl, L, HRF.out, rfl, hHeld2.2.2.2.2.2.2.row⟩, hHeld2.2.2.2.2.2.2.bel⟩
                | true =>
                  rw [hnb, Bool.true_and] at HOK
                  rw [hnb] at c1
                  have hok : ok = plB span L := HOK.out.symm
                  subst hok
                  clear hnb
                  refine wp_region_held_drew (S := (fun w => w.cell? ⟨W.heap.size + 1, 0, none⟩ = some (.int .i64 base) ∧ w.cell? ⟨W.heap.size + 1, 1, none⟩ = some (.int .i64 span) ∧ w.cell? ⟨W.heap.size + 1, 2, none⟩ = some (.int .i64 prod) ∧ w.cell? ⟨W.heap.size + 1, 3, none⟩ = some (.int .i64 epoch) ∧ w.cell? ⟨W.heap.size + 1, 4, none⟩ = some (.int .i64 seq) ∧ w.cell? ⟨W.heap.size + 1, 5, none⟩ = some (.slice A L.length c) ∧ UnS W ⟨base, span, prod, epoch, seq⟩ A c L w)) (by kernel_rfl) hS0 (fun hHeld => ?_)
                  refine takeW (i := 0) (v := ?v12) rfl (by kernel_rfl) (by kernel_rfl) (by kernel_rfl) (fun _ _ _ h => h) (by kernel_rfl) hHeld ?hy12 ?rest12
                  case hy12 => (intro w hSw; (try dsimp only at hSw); go_simp; (try with_reducible rfl))
                  try simp only [Act.put, List.setIfInBounds_toArray, List.set_cons_zero, List.set_cons_succ]
                  refine takeW (i := 1) (v := ?v13) rfl (by kernel_rfl) (by kernel_rfl) (by kernel_rfl) (fun _ _ _ h => h) (by kernel_rfl) hHeld ?hy13 ?rest13
                  case hy13 => (intro w hSw; (try dsimp only at hSw); go_simp; (try with_reducible rfl))
                  try simp only [Act.put, List.setIfInBounds_toArray, List.set_cons_zero, List.set_cons_succ]
                  refine takeW (i := 2) (v := ?v14) rfl (by kernel_rfl) (by kernel_rfl) (by kernel_rfl) (fun _ _ _ h => h) (by kernel_rfl) hHeld ?hy14 ?rest14
                  case hy14 => (intro w hSw; (try dsimp only at hSw); go_simp; (try with_reducible rfl))
                  try simp only [Act.put, List.setIfInBounds_toArray, List.set_cons_zero, List.set_cons_succ]
                  refine takeW (i := 3) (v := ?v15) rfl (by kernel_rfl) (by kernel_rfl) (by kernel_rfl) (fun _ _ _ h => h) (by kernel_rfl) hHeld ?hy15 ?rest15
                  case hy15 => (intro w hSw; (try dsimp only at hSw); go_simp; (try with_reducible rfl))
                  try simp only [Act.put, List.setIfInBounds_toArray, List.set_cons_zero, List.set_cons_succ]
                  refine takeW (i := 4) (v := ?v16) rfl (by kernel_rfl) (by kernel_rfl) (by kernel_rfl) (fun _ _ _ h => h) (by kernel_rfl) hHeld ?hy16 ?rest16
                  case hy16 => (intro w hSw; (try dsimp only at hSw); go_simp; (try with_reducible rfl))
                  try simp only [Act.put, List.setIfInBounds_toArray, List.set_cons_zero, List.set_cons_succ]
                  refine takeW (i := 5) (v := ?v17) rfl (by kernel_rfl) (by kernel_rfl) (by kernel_rfl) (fun _ _ _ h => h) (by kernel_rfl) hHeld ?hy17 ?rest17
                  case hy17 => (intro w hSw; (try dsimp only at hSw); go_simp; (try with_reducible rfl))
                  try simp only [Act.put, List.setIfInBounds_toArray, List.set_cons_zero, List.set_cons_succ]
                  refine takeW (i := 6) (v := ?v18) rfl (by kernel_rfl) (by kernel_rfl) (by kernel_rfl) (fun _ _ _ h => h) (by kernel_rfl) hHeld ?hy18 ?rest18
                  case hy18 => (intro w hSw; (try dsimp only at hSw); go_simp; (try with_reducible rfl))
                  try simp only [Act.put, List.setIfInBounds_toArray, List.set_cons_zero, List.set_cons_succ]
                  refine wpAnyH_ready (rs := [7]) (by kernel_rfl) (by simp) ?_
                  refine consL rfl (by kernel_rfl) (fun K hK => ?_) AllReadyH.nil
                  go_simp
                  (with_reducible refine (c1 _).mono ?_)
                  rintro e w6 ⟨rfl, hb2⟩
                  refine hK.out _ _ (un_later hHeld hb2) (fun hHeld => ?_)
                  clear hK K hb2
                  try simp only [Act.put, List.setIfInBounds_toArray, List.set_cons_zero, List.set_cons_succ]
                  refine takeW (i := 8) (v := ?v19) rfl (by kernel_rfl) (by kernel_rfl) (by kernel_rfl) (fun _ _ _ h => h) (by kernel_rfl) hHeld ?hy19 ?rest19
                  case hy19 => (intro w hSw; (try dsimp only at hSw); go_simp; (try with_reducible rfl))
                  try simp only [Act.put, List.setIfInBounds_toArray, List.set_cons_zero, List.set_cons_succ]
                  refine takeW (i := 9) (v := ?v20) rfl (by kernel_rfl) (by kernel_rfl) (by kernel_rfl) (fun _ _ _ h => h) (by kernel_rfl) hHeld ?hy20 ?rest20
                  case hy20 => (intro w hSw; (try dsimp only at hSw); go_simp; (try with_reducible rfl))
                  try simp only [Act.put, List.setIfInBounds_toArray, List.set_cons_zero, List.set_cons_succ]
                  refine takeW (i := 10) (v := ?v21) rfl (by kernel_rfl) (by kernel_rfl) (by kernel_rfl) (fun _ _ _ h => h) (by kernel_rfl) hHeld ?hy21 ?rest21
                  case hy21 => (intro w hSw; (try dsimp only at hSw); go_simp; (try with_reducible rfl))
                  try simp only [Act.put, List.setIfInBounds_toArray, List.set_cons_zero, List.set_cons_succ]
                  refine wpAnyH_ready (rs := [11]) (by kernel_rfl) (by simp) ?_
                  refine consL rfl (by kernel_rfl) (fun K hK => ?_) AllReadyH.nil
                  go_simp
                  (with_reducible refine (c2 _ hHeld.2.2.2.2.2.2.rin).mono ?_)
                  rintro e w7 ⟨rfl, hb2⟩
                  refine hK.out _ _ (un_later hHeld hb2) (fun hHeld => ?_)
                  clear hK K hb2
                  try simp only [Act.put, List.setIfInBounds_toArray, List.set_cons_zero, List.set_cons_succ]
                  refine takeW (i := 12) (v := ?v22) rfl (by kernel_rfl) (by kernel_rfl) (by kernel_rfl) (fun _ _ _ h => h) (by kernel_rfl) hHeld ?hy22 ?rest22
                  case hy22 => (intro w hSw; (try dsimp only at hSw); go_simp; (try with_reducible rfl))
                  try simp only [Act.put, List.setIfInBounds_toArray, List.set_cons_zero, List.set_cons_succ]
                  obtain ⟨r0, r1, r2, r3, r4, r5, hrb⟩ := hHeld.2.2.2.2.2.2.res
                  obtain ⟨y0, y1, y2, y3, y4, y5, f0, f1, f2, f3, f4, f5⟩ := box_six hrb
                  refine wpAnyH_ready (rs := [13]) (by kernel_rfl) (by simp) ?_
                  refine consL rfl (by kernel_rfl) (fun K hK => ?_) AllReadyH.nil
                  go_simp
                  refine hK.out _ _ (un_set hHeld (.int .i64 base) (.int .i64 span) (.int .i64 prod) (.int .i64 epoch) (.int .i64 seq) (.slice A L.length c)) (fun hHeld2 => ?_)
                  clear hK K y0 y1 y2 y3 y4 y5 f0 f1 f2 f3 f4 f5
                  refine takeW (i := 14) (v := ?v23) rfl (by kernel_rfl) (by kernel_rfl) (by kernel_rfl) (fun _ _ _ h => h) (by kernel_rfl) hHeld2 ?hy23 ?rest23
                  case hy23 => (intro w hSw; (try dsimp only at hSw); go_simp; (try with_reducible rfl))
                  try simp only [Act.put, List.setIfInBounds_toArray, List.set_cons_zero, List.set_cons_succ]
                  refine wpAnyH_done (by kernel_rfl) ?_ _
                  go_wp2_with fail
                  refine bodyPost_ret (v := .tuple #[.agg #[.int .i64 base, .int .i64 span, .int .i64 prod, .int .i64 epoch, .int .i64 seq, .slice A L.length c], .bool (plB span L)]) ?_ rfl ?_
                  · exact unp_result W.heap.size (bset_box hrb _ _ _ _ _ _) _ rfl rfl
                  · exact ⟨⟨base, span, prod, epoch, seq⟩, A, L.length, c, rfl, fun _ => ⟨rfl, L, HRF.out, rfl, hHeld2.2.2.2.2.2.2.row⟩, hHeld2.2.2.2.2.2.2.bel⟩
              · have hq' : (q == (s.size : Int)) = false := by rw [beq_eq_false_iff_ne]; exact hq
                have hok : ok = false := by rw [← HOK.out, decide_eq_false hq]; rfl
                subst hok
                refine wp_region_held_drew (S := (fun w => w.cell? ⟨W.heap.size + 1, 0, none⟩ = some (.int .i64 base) ∧ w.cell? ⟨W.heap.size + 1, 1, none⟩ = some (.int .i64 span) ∧ w.cell? ⟨W.heap.size + 1, 2, none⟩ = some (.int .i64 prod) ∧ w.cell? ⟨W.heap.size + 1, 3, none⟩ = some (.int .i64 epoch) ∧ w.cell? ⟨W.heap.size + 1, 4, none⟩ = some (.int .i64 seq) ∧ w.cell? ⟨W.heap.size + 1, 5, none⟩ = some (.slice A L.length c) ∧ UnS W ⟨base, span, prod, epoch, seq⟩ A c L w)) (by kernel_rfl) hS0 (fun hHeld => ?_)
                refine takeW (i := 0) (v := ?v24) rfl (by kernel_rfl) (by kernel_rfl) (by kernel_rfl) (fun _ _ _ h => h) (by kernel_rfl) hHeld ?hy24 ?rest24
                case hy24 => (intro w hSw; (try dsimp only at hSw); go_simp; (try with_reducible rfl))
                try simp only [Act.put, List.setIfInBounds_toArray, List.set_cons_zero, List.set_cons_succ]
                refine takeW (i := 1) (v := ?v25) rfl (by kernel_rfl) (by kernel_rfl) (by kernel_rfl) (fun _ _ _ h => h) (by kernel_rfl) hHeld ?hy25 ?rest25
                case hy25 => (intro w hSw; (try dsimp only at hSw); go_simp; (try with_reducible rfl))
                try simp only [Act.put, List.setIfInBounds_toArray, List.set_cons_zero, List.set_cons_succ]
                refine takeW (i := 2) (v := ?v26) rfl (by kernel_rfl) (by kernel_rfl) (by kernel_rfl) (fun _ _ _ h => h) (by kernel_rfl) hHeld ?hy26 ?rest26
                case hy26 => (intro w hSw; (try dsimp only at hSw); go_simp; (try with_reducible rfl))
                try simp only [Act.put, List.setIfInBounds_toArray, List.set_cons_zero, List.set_cons_succ]
                refine takeW (i := 3) (v := ?v27) rfl (by kernel_rfl) (by kernel_rfl) (by kernel_rfl) (fun _ _ _ h => h) (by kernel_rfl) hHeld ?hy27 ?rest27
                case hy27 => (intro w hSw; (try dsimp only at hSw); go_simp; (try with_reducible rfl))
                try simp only [Act.put, List.setIfInBounds_toArray, List.set_cons_zero, List.set_cons_succ]
                refine takeW (i := 4) (v := ?v28) rfl (by kernel_rfl) (by kernel_rfl) (by kernel_rfl) (fun _ _ _ h => h) (by kernel_rfl) hHeld ?hy28 ?rest28
                case hy28 => (intro w hSw; (try dsimp only at hSw); go_simp; (try with_reducible rfl))
                try simp only [Act.put, List.setIfInBounds_toArray, List.set_cons_zero, List.set_cons_succ]
                refine takeW (i := 5) (v := ?v29) rfl (by kernel_rfl) (by kernel_rfl) (by kernel_rfl) (fun _ _ _ h => h) (by kernel_rfl) hHeld ?hy29 ?rest29
                case hy29 => (intro w hSw; (try dsimp only at hSw); go_simp; (try with_reducible rfl))
                try simp only [Act.put, List.setIfInBounds_toArray, List.set_cons_zero, List.set_cons_succ]
                refine takeU (i := 6) rfl (by kernel_rfl) (by kernel_rfl) (by kernel_rfl) (fun _ _ _ h => h) (by kernel_rfl) hHeld ?_
                try simp only [Act.put, List.setIfInBounds_toArray, List.set_cons_zero, List.set_cons_succ]
                refine takeU (i := 7) rfl (by kernel_rfl) (by kernel_rfl) (by kernel_rfl) (fun _ _ _ h => h) (by kernel_rfl) hHeld ?_
                try simp only [Act.put, List.setIfInBounds_toArray, List.set_cons_zero, List.set_cons_succ]
                refine takeW (i := 8) (v := ?v30) rfl (by kernel_rfl) (by kernel_rfl) (by kernel_rfl) (fun _ _ _ h => h) (by kernel_rfl) hHeld ?hy30 ?rest30
                case hy30 => (intro w hSw; (try dsimp only at hSw); go_simp; (try with_reducible rfl))
                try simp only [Act.put, List.setIfInBounds_toArray, List.set_cons_zero, List.set_cons_succ]
                refine takeW (i := 9) (v := ?v31) rfl (by kernel_rfl) (by kernel_rfl) (by kernel_rfl) (fun _ _ _ h => h) (by kernel_rfl) hHeld ?hy31 ?rest31
                case hy31 => (intro w hSw; (try dsimp only at hSw); go_simp; (try with_reducible rfl))
                try simp only [Act.put, List.setIfInBounds_toArray, List.set_cons_zero, List.set_cons_succ]
                refine takeU (i := 10) rfl (by kernel_rfl) (by kernel_rfl) (by kernel_rfl) (fun _ _ _ h => h) (by kernel_rfl) hHeld ?_
                try simp only [Act.put, List.setIfInBounds_toArray, List.set_cons_zero, List.set_cons_succ]
                refine takeU (i := 11) rfl (by kernel_rfl) (by kernel_rfl) (by kernel_rfl) (fun _ _ _ h => h) (by kernel_rfl) hHeld ?_
                try simp only [Act.put, List.setIfInBounds_toArray, List.set_cons_zero, List.set_cons_succ]
                refine takeW (i := 12) (v := ?v32) rfl (by kernel_rfl) (by kernel_rfl) (by kernel_rfl) (fun _ _ _ h => h) (by kernel_rfl) hHeld ?hy32 ?rest32
                case hy32 => (intro w hSw; (try dsimp only at hSw); go_simp; (try with_reducible rfl))
                try simp only [Act.put, List.setIfInBounds_toArray, List.set_cons_zero, List.set_cons_succ]
                obtain ⟨r0, r1, r2, r3, r4, r5, hrb⟩ := HS0.out.res
                obtain ⟨y0, y1, y2, y3, y4, y5, f0, f1, f2, f3, f4, f5⟩ := box_six hrb
                refine wpAnyH_ready (rs := [13]) (by kernel_rfl) (by simp) ?_
                refine consL rfl (by kernel_rfl) (fun K hK => ?_) AllReadyH.nil
                go_simp
                refine hK.out _ _ (UnS.later (un_set HS0.out.cells (.int .i64 base) (.int .i64 span) (.int .i64 prod) (.int .i64 epoch) (.int .i64 seq) (.slice A L.length c)).2.2.2.2.2.2 ((Below.refl _ _).drew)).cells (fun hHeld2 => ?_)
                clear hK K y0 y1 y2 y3 y4 y5 f0 f1 f2 f3 f4 f5
                refine takeW (i := 14) (v := ?v33) rfl (by kernel_rfl) (by kernel_rfl) (by kernel_rfl) (fun _ _ _ h => h) (by kernel_rfl) hHeld2 ?hy33 ?rest33
                case hy33 => (intro w hSw; (try dsimp only at hSw); go_simp; (try with_reducible rfl))
                try simp only [Act.put, List.setIfInBounds_toArray, List.set_cons_zero, List.set_cons_succ]
                refine wpAnyH_done (by kernel_rfl) ?_ _
                go_wp2_with fail
                refine bodyPost_ret (v := .tuple #[.agg #[.int .i64 base, .int .i64 span, .int .i64 prod, .int .i64 epoch, .int .i64 seq, .slice A L.length c], .bool false]) ?_ rfl ?_
                · exact unp_result W.heap.size (bset_box hrb _ _ _ _ _ _).drew _ rfl rfl
                · exact ⟨⟨base, span, prod, epoch, seq⟩, A, L.length, c, rfl, fun _ => ⟨rfl, L, HRF.out, rfl, hHeld2.2.2.2.2.2.2.row⟩, hHeld2.2.2.2.2.2.2.bel⟩
end Go.Proofs.YtmhamfhhojmeoaaDoor
