/- The program's unpack: the numbers of a body. No condition but the body's length. -/
import Derived.Test.YtmhamfhhojmeoaaDoorBatBAt
import Derived.Test.YtmhamfhhojmeoaaDoorPGet
import Derived.Test.YtmhamfhhojmeoaaDoorRecDec2
namespace Go.Proofs.YtmhamfhhojmeoaaDoor
open Go.RowKit
set_option linter.unusedVariables false
/-- So many numbers from the beginning on, the place behind them, an error. -/
def nrd (s : ByteArray) : Nat → List Int × Int × Int
  | 0 => ([], 0, 0)
  | k + 1 => if (nrd s k).2.2 ≠ 0 then nrd s k else ((nrd s k).1 ++ [(getG s (nrd s k).2.1).1], (getG s (nrd s k).2.1).2.1, (getG s (nrd s k).2.1).2.2)
/-- So many records from a place on. -/
def rrd (s : ByteArray) (q : Int) : Nat → List Rec × Int × Int
  | 0 => ([], q, 0)
  | k + 1 => if (rrd s q k).2.2 ≠ 0 then rrd s q k else
    if (decR s (rrd s q k).2.1).2.2 ≠ 0 then ((rrd s q k).1, (rrd s q k).2.1, (decR s (rrd s q k).2.1).2.2) else
    ((rrd s q k).1 ++ [(decR s (rrd s q k).2.1).1], (decR s (rrd s q k).2.1).2.1, 0)
theorem nrd_stop {s : ByteArray} {k : Nat} (h : (nrd s k).2.2 ≠ 0) : ∀ j, nrd s (k + j) = nrd s k
  | 0 => rfl
  | j + 1 => by
    show (if (nrd s (k + j)).2.2 ≠ 0 then _ else _) = _
    rw [if_pos (by rw [nrd_stop h j]; exact h)]
    exact nrd_stop h j
theorem rrd_stop {s : ByteArray} {q : Int} {k : Nat} (h : (rrd s q k).2.2 ≠ 0) : ∀ j, rrd s q (k + j) = rrd s q k
  | 0 => rfl
  | j + 1 => by
    show (if (rrd s q (k + j)).2.2 ≠ 0 then _ else _) = _
    rw [if_pos (by rw [rrd_stop h j]; exact h)]
    exact rrd_stop h j
def nbn (l : List Int) : BN := ⟨l.getD 0 0, l.getD 1 0, l.getD 2 0, l.getD 3 0, l.getD 4 0⟩
def zeroB : Array Value := #[.int .i64 0, .int .i64 0, .int .i64 0, .int .i64 0, .int .i64 0, .slice none 0 0]
structure UpAt (W : World) (bc : Array Value) (cn : Int) (wr : World) : Prop where
  res : Box wr W.heap.size 24 zeroB
  bat : Box wr (W.heap.size + 1) 24 bc
  cnt : Box wr (W.heap.size + 1 + 1) 3 #[.int .i64 cn]
  bel : Below W.heap.size W wr
def ptrsC (W : World) : Array Value := #[.pointer (some ⟨W.heap.size + 1, 0, none⟩), .pointer (some ⟨W.heap.size + 1, 1, none⟩), .pointer (some ⟨W.heap.size + 1, 2, none⟩), .pointer (some ⟨W.heap.size + 1, 3, none⟩), .pointer (some ⟨W.heap.size + 1, 4, none⟩), .pointer (some ⟨W.heap.size + 1 + 1, 0, none⟩)]
section
variable {W wr w' : World} {bc : Array Value} {cn : Int}
theorem UpAt.later (h : UpAt W bc cn wr) (hb : Below wr.heap.size wr w') : UpAt W bc cn w' :=
  ⟨h.res.later hb, h.bat.later hb, h.cnt.later hb, h.bel.trans (hb.mono h.bel.size)⟩
theorem UpAt.bset (h : UpAt W bc cn wr) (i : Nat) (u : Value) : UpAt W (bc.setIfInBounds i u) cn (wr.setCell ⟨W.heap.size + 1, i, none⟩ u) :=
  ⟨h.res.far (p := ⟨W.heap.size + 1, i, none⟩) (Nat.ne_of_lt (Nat.lt_succ_self _)) _, h.bat.set i u, h.cnt.far (p := ⟨W.heap.size + 1, i, none⟩) (Nat.ne_of_gt (Nat.lt_succ_self _)) _, h.bel.setCell (p := ⟨W.heap.size + 1, i, none⟩) (Nat.le_succ _) _⟩
theorem UpAt.cset (h : UpAt W bc cn wr) (n : Int) : UpAt W bc n (wr.setCell ⟨W.heap.size + 1 + 1, 0, none⟩ (.int .i64 n)) :=
  ⟨h.res.far (p := ⟨W.heap.size + 1 + 1, 0, none⟩) (Nat.ne_of_lt (Nat.lt_succ_of_lt (Nat.lt_succ_self _))) _, h.bat.far (p := ⟨W.heap.size + 1 + 1, 0, none⟩) (Nat.ne_of_lt (Nat.lt_succ_self _)) _, h.cnt.set 0 _, h.bel.setCell (p := ⟨W.heap.size + 1 + 1, 0, none⟩) (Nat.le_succ_of_le (Nat.le_succ _)) _⟩
end
/-- Where the k-th number goes. -/
theorem slot_of {W wr : World} {nums : List Int} {k : Nat} (hk : k < 6) (hl : nums.length = k) (h : UpAt W (bnC (nbn nums) (.slice none 0 0)) (nums.getD 5 0) wr) (hp : Box wr (W.heap.size + 1 + 1 + 1) 82 (ptrsC W)) :
    ∃ tb ti v0, wr.cell? ⟨W.heap.size + 1 + 1 + 1, k, none⟩ = some (.pointer (some ⟨tb, ti, none⟩)) ∧ wr.cell? ⟨tb, ti, none⟩ = some v0 ∧ v0.oneCell' = true ∧ wr.frozen? ⟨tb, ti, none⟩ = false ∧
      ∀ x, UpAt W (bnC (nbn (nums ++ [x])) (.slice none 0 0)) ((nums ++ [x]).getD 5 0) (wr.setCell ⟨tb, ti, none⟩ (.int .i64 x)) ∧ Box (wr.setCell ⟨tb, ti, none⟩ (.int .i64 x)) (W.heap.size + 1 + 1 + 1) 82 (ptrsC W) := by
  rcases nums with _ | ⟨a, _ | ⟨b, _ | ⟨c, _ | ⟨d, _ | ⟨e, _ | ⟨f, l⟩⟩⟩⟩⟩⟩
  · subst hl
    exact ⟨_, 0, _, (hp.cell 0).trans rfl, (h.bat.cell 0).trans rfl, rfl, h.bat.frozen 0, fun x => ⟨h.bset 0 _, hp.far (p := ⟨W.heap.size + 1, 0, none⟩) (by show W.heap.size + 1 + 1 + 1 ≠ W.heap.size + 1; omega) _⟩⟩
  · subst hl
    exact ⟨_, 1, _, (hp.cell 1).trans rfl, (h.bat.cell 1).trans rfl, rfl, h.bat.frozen 1, fun x => ⟨h.bset 1 _, hp.far (p := ⟨W.heap.size + 1, 1, none⟩) (by show W.heap.size + 1 + 1 + 1 ≠ W.heap.size + 1; omega) _⟩⟩
  · subst hl
    exact ⟨_, 2, _, (hp.cell 2).trans rfl, (h.bat.cell 2).trans rfl, rfl, h.bat.frozen 2, fun x => ⟨h.bset 2 _, hp.far (p := ⟨W.heap.size + 1, 2, none⟩) (by show W.heap.size + 1 + 1 + 1 ≠ W.heap.size + 1; omega) _⟩⟩
  · subst hl
    exact ⟨_, 3, _, (hp.cell 3).trans rfl, (h.bat.cell 3).trans rfl, rfl, h.bat.frozen 3, fun x => ⟨h.bset 3 _, hp.far (p := ⟨W.heap.size + 1, 3, none⟩) (by show W.heap.size + 1 + 1 + 1 ≠ W.heap.size + 1; omega) _⟩⟩
  · subst hl
    exact ⟨_, 4, _, (hp.cell 4).trans rfl, (h.bat.cell 4).trans rfl, rfl, h.bat.frozen 4, fun x => ⟨h.bset 4 _, hp.far (p := ⟨W.heap.size + 1, 4, none⟩) (by show W.heap.size + 1 + 1 + 1 ≠ W.heap.size + 1; omega) _⟩⟩
  · subst hl
    exact ⟨_, 0, _, (hp.cell 5).trans rfl, (h.cnt.cell 0).trans rfl, rfl, h.cnt.frozen 0, fun x => ⟨h.cset x, hp.far (p := ⟨W.heap.size + 1 + 1, 0, none⟩) (by show W.heap.size + 1 + 1 + 1 ≠ W.heap.size + 1 + 1; omega) _⟩⟩
  · simp at hl; omega
theorem unp_result {w : World} (g : Nat) {v0 v1 v2 v3 v4 v5 x : Value} (h : Box w g 24 #[v0, v1, v2, v3, v4, v5]) (tmps : Array Value) (ht : (tmps[2]?).getD undef = .pointer (some ⟨g, 0, none⟩)) (h3 : (tmps[3]?).getD undef = x) :
    (results Tryd.f33 tmps).run Tryd.prog w = .ok (.tuple #[.agg #[v0, v1, v2, v3, v4, v5], x]) w := by
  have c0 := (h.cell 0).trans (show _ = some v0 from rfl)
  have c1 := (h.cell 1).trans (show _ = some v1 from rfl)
  have c2 := (h.cell 2).trans (show _ = some v2 from rfl)
  have c3 := (h.cell 3).trans (show _ = some v3 from rfl)
  have c4 := (h.cell 4).trans (show _ = some v4 from rfl)
  have c5 := (h.cell 5).trans (show _ = some v5 from rfl)
  simp [results, Tryd.results33, go_sem, ht, h3, c0, c1, c2, c3, c4, c5]
end Go.Proofs.YtmhamfhhojmeoaaDoor
