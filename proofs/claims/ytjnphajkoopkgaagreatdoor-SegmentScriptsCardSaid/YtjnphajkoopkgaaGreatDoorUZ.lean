/- Merged texts. What each proves is told at its head. -/
import Derived.Test.YtjnphajkoopkgaaGreatDoorUM
import Derived.Test.YtjnphajkoopkgaaGreatDoorUO
import Derived.Test.YtjnphajkoopkgaaGreatDoorUX
import Derived.BigQuiet
import Derived.RegionTactic
import Derived.BigRegion
import Derived.ChangeAlike
import Derived.Deep.QuietTactic
import Derived.Maps.AppendAt
import Derived.Deep.AppendLies
import Derived.WalkKit
import Derived.Lib.Hide
import Derived.Deep.RegionHeld3
import Derived.Deep.RegionLaw
import Derived.Deep.RegionWith
/- segment: a segment in memory: its block, its index, its row of placed batches, their records. Plain words. No condition. -/
namespace Go.Proofs.YtjnphajkoopkgaaGreatDoor
open Go.RowKit
set_option linter.unusedVariables false
/-- A block of cells of one of these types. -/
def TyB (ts : List TypeId) (w : World) (k : Nat) : Prop := ∃ cs t z, w.heap[k]? = some (.cells cs t z) ∧ t ∈ ts
theorem TyB.apart {ts us : List TypeId} {w : World} {k : Nat} (h : TyB ts w k) (h' : TyB us w k) (hd : (ts.all fun t => !us.contains t) = true) : False := by
  obtain ⟨cs, t, z, h1, h2⟩ := h
  obtain ⟨cs', t', z', h3, h4⟩ := h'
  rw [h1] at h3
  injection h3 with h3
  injection h3 with _ e _
  subst e
  have := List.all_eq_true.1 hd t h2
  simp [h4] at this
theorem TyB.box {ts : List TypeId} {w : World} {b : Nat} {t : TypeId} {cs : Array Value} (h : Box w b t cs) (ht : t ∈ ts) : TyB ts w b := ⟨cs, t, _, h, ht⟩
theorem TyB.row {ts : List TypeId} {w : World} {base n size k : Nat} {t : TypeId} {v : Value} {xs : List Value} (h : w.ownsRow base t size v n xs) (hk : v.ownBlock = some k) (ht : t ∈ ts) : TyB ts w k := by
  rcases h.2 with ⟨rfl, _⟩ | ⟨g, cap, cur, rfl, _, hg, _⟩
  · cases hk
  · have : g = k := by simpa [Value.ownBlock] using hk
    subst this
    exact ⟨_, _, _, hg, ht⟩
/-- What a disk's calls may write: its own kinds of blocks. -/
def DkB (w : World) (k : Nat) : Prop := TyB [68, 108, 5] w k ∨ ∃ es c, w.heap[k]? = some (.map es c)
theorem DkB.apart {us : List TypeId} {w : World} {k : Nat} (h : DkB w k) (h' : TyB us w k) (hd : (us.all fun t => ![68, 108, 5].contains t) = true) : False := by
  rcases h with h | ⟨es, c, h⟩
  · exact h'.apart h hd
  · obtain ⟨cs, t, z, h1, _⟩ := h'
    rw [h] at h1
    injection h1 with h1
    cases h1
theorem foot_kind {w : World} {p : Nat} {d : Dk.DS} (h : Dk.Rep w p d) {k : Nat} (hk : Dk.Foot p d k) : DkB w k := by
  rcases hk with rfl | hk | ⟨f, hf, hk⟩
  · exact .inl (.box h.box (by decide))
  · rcases h.map with ⟨h1, _⟩ | ⟨m, h1, h2⟩
    · rw [h1] at hk; cases hk
    · have : m = k := by rw [h1] at hk; injection hk
      subst this
      obtain ⟨es, c, hb, _⟩ := h2
      exact .inr ⟨es, c, hb⟩
  · rcases hk with rfl | hk
    · exact .inl (.box (h.files f hf).box (by decide))
    · exact .inl (.row (h.files f hf).row hk (by decide))
/-- A disk that was made behind W: its blocks are of its kinds. -/
def AtS (W w : World) (k : Nat) : Prop := W.heap.size ≤ k ∧ DkB w k
theorem at_kind {W w : World} {p : Nat} {a : Dk.Ab} (h : Dk.At W p a w) : Dk.Is w p a (AtS W w) := by
  obtain ⟨⟨d, hR, h1, h2, h3, h4, h5, h6⟩, _⟩ := h
  exact ⟨d, hR, h1, h2, h3, h4, h5, fun k hk => ⟨h6 k hk, foot_kind hR hk⟩⟩
/-- What a disk's call leaves. -/
def DkOut (W w : World) (p : Nat) (v : Value) (a : Dk.Ab) (e : Ending) (w' : World) : Prop := e = .returned v ∧ Dk.At W p a w' ∧ Off (AtS W w) w w'
theorem at_out {W w w' : World} {p : Nat} {a a' : Dk.Ab} {v : Value} {e : Ending} (h : Dk.At W p a w) (hd : Dk.Does w p (AtS W w) v a' e w') : DkOut W w p v a' e w' := by
  have hd2 := hd
  obtain ⟨_, _, ho⟩ := hd2
  obtain ⟨h1, h2⟩ := Dk.at_does h (fun k hk => hk.1) hd
  exact ⟨h1, h2, ho⟩
/-- A placed batch: the batch, where its records lie, its place in the file, how many bytes it has. -/
structure PX where
  b : BN
  R : List RX
  A : Option Addr
  c : Nat
  pos : Int
  size : Int
def plcV (x : PX) : Array Value := #[.int .i64 x.b.base, .int .i64 x.b.span, .int .i64 x.b.prod, .int .i64 x.b.epoch, .int .i64 x.b.seq, .slice x.A x.R.length x.c, .int .i64 x.pos, .int .i64 x.size]
def plcC (L : List PX) : List Value := L.flatMap fun x => (plcV x).toList
theorem plcC_snoc (L : List PX) (x : PX) : plcC (L ++ [x]) = plcC L ++ (plcV x).toList := by simp [plcC]
theorem plcC_at : ∀ {L : List PX} {j i : Nat} {x : PX}, L[j]? = some x → i < 8 → (plcC L)[j * 8 + i]? = (plcV x)[i]?
  | [], j, i, x, h, _ => by cases h
  | y :: l, 0, i, x, h, hi => by
    have : y = x := by simpa using h
    subst this
    show ((plcV y).toList ++ plcC l)[0 * 8 + i]? = _
    rw [List.getElem?_append_left (by show 0 * 8 + i < 8; omega), Nat.zero_mul, Nat.zero_add]
    simp
  | y :: l, j + 1, i, x, h, hi => by
    have ih := plcC_at (L := l) (j := j) (i := i) (x := x) (by simpa using h) hi
    show ((plcV y).toList ++ plcC l)[(j + 1) * 8 + i]? = _
    have hl : (plcV y).toList.length = 8 := rfl
    rw [List.getElem?_append_right (by rw [hl]; omega), hl, show (j + 1) * 8 + i - 8 = j * 8 + i by omega]
    exact ih
/-- A segment: its disk, its name, its base, its index, its batches. -/
structure SG where
  p : Nat
  name : ByteArray
  base : Int
  ip : Nat
  x : Ix.Ix
  iA : Option Addr
  iC : Nat
  L : List PX
  B : Option Addr
  d : Nat
def sgC (s : SG) : Array Value := #[.pointer (some ⟨s.p, 0, none⟩), .string s.name, .int .i64 s.base, .pointer (some ⟨s.ip, 0, none⟩), .slice s.B s.L.length s.d]
structure SgIs (w : World) (g q : Nat) (s : SG) : Prop where
  box : Box w q 78 (sgC s)
  ix : Ix.IxIs w g s.ip s.x s.iA s.iC
  row : w.ownsRow g 91 8 (.slice s.B s.L.length s.d) s.L.length (plcC s.L)
  recs : ∀ x ∈ s.L, RowR w g (.slice x.A x.R.length x.c) x.R
  lo : g ≤ q
/-- The blocks of a segment that calls may write. -/
def SgF (s : SG) (q k : Nat) : Prop := k = q ∨ k = s.ip ∨ Ix.blk s.iA k ∨ Ix.blk s.B k
def SgT : List TypeId := [78, 114, 153, 91]
def RcT : List TypeId := [85, 87]
theorem row_blk {w : World} {base n len cap size : Nat} {t : TypeId} {A : Option Addr} {xs : List Value} (h : w.ownsRow base t size (.slice A len cap) n xs) {k : Nat} (hk : Ix.blk A k) : (Value.slice A len cap).ownBlock = some k := by
  obtain ⟨a, rfl, rfl⟩ := hk
  rfl
theorem own_blk {A : Option Addr} {len cap k : Nat} (h : (Value.slice A len cap).ownBlock = some k) : Ix.blk A k := by
  cases A with
  | none => cases h
  | some a => exact ⟨a, rfl, by simpa [Value.ownBlock] using h⟩
theorem sg_kind {w : World} {g q : Nat} {s : SG} (h : SgIs w g q s) {k : Nat} (hk : SgF s q k) : TyB SgT w k := by
  rcases hk with rfl | rfl | hk | hk
  · exact .box h.box (by decide)
  · exact .box h.ix.box (by decide)
  · exact .row h.ix.row (row_blk h.ix.row hk) (by decide)
  · exact .row h.row (row_blk h.row hk) (by decide)
theorem sg_low {w : World} {g q : Nat} {s : SG} (h : SgIs w g q s) {k : Nat} (hk : SgF s q k) : g ≤ k ∧ k < w.heap.size := by
  rcases hk with rfl | rfl | hk | hk
  · exact ⟨h.lo, h.box.lt⟩
  · exact ⟨h.ix.lo, h.ix.box.lt⟩
  · exact h.ix.row.lt k (row_blk h.ix.row hk)
  · exact h.row.lt k (row_blk h.row hk)
theorem rowR_off {w w' : World} {T : Nat → Prop} {base : Nat} {v : Value} {L : List RX} (h : RowR w base v L) (ho : Off T w w') (hT : ∀ k, T k → ¬ TyB RcT w k) : RowR w' base v L :=
  ⟨own_off h.row ho (fun k hk ht => hT k ht (.row h.row hk (by decide))), fun x hx => own_off (h.heads x hx) ho (fun k hk ht => hT k ht (.row (h.heads x hx) hk (by decide)))⟩
theorem ix_off {w w' : World} {T : Nat → Prop} {base b c : Nat} {x : Ix.Ix} {A : Option Addr} (h : Ix.IxIs w base b x A c) (ho : Off T w w') (h1 : ¬ T b) (h2 : ∀ k, Ix.blk A k → ¬ T k) : Ix.IxIs w' base b x A c :=
  ⟨h.box.off ho h1, own_off h.row ho (fun k hk => h2 k (own_blk hk)), h.lo, h.oks, h.okl⟩
theorem SgIs.off {w w' : World} {g q : Nat} {s : SG} {T : Nat → Prop} (h : SgIs w g q s) (ho : Off T w w') (hT : ∀ k, SgF s q k → ¬ T k) (hR : ∀ k, T k → ¬ TyB RcT w k) : SgIs w' g q s :=
  ⟨h.box.off ho (hT q (.inl rfl)), ix_off h.ix ho (hT _ (.inr (.inl rfl))) (fun k hk => hT k (.inr (.inr (.inl hk)))), own_off h.row ho (fun k hk => hT k (.inr (.inr (.inr (own_blk hk))))), fun x hx => rowR_off (h.recs x hx) ho hR, h.lo⟩
theorem SgIs.later {w w' : World} {g q : Nat} {s : SG} (h : SgIs w g q s) (hb : Below w.heap.size w w') : SgIs w' g q s := h.off (Off.of_below (fun _ => False) hb) (fun _ _ x => x) (fun _ x => x.elim)
/-- It stays under a disk's calls. -/
theorem SgIs.disk {W w w' : World} {g q : Nat} {s : SG} (h : SgIs w g q s) (ho : Off (AtS W w) w w') : SgIs w' g q s :=
  h.off ho (fun k hk ht => ht.2.apart (sg_kind h hk) (by decide)) (fun k ht hr => ht.2.apart hr (by decide))
/-- A disk stays under what writes other kinds. -/
theorem at_off {W w w' : World} {p : Nat} {a : Dk.Ab} {T : Nat → Prop} (h : Dk.At W p a w) (ho : Off T w w') (hT : ∀ k, T k → k < w.heap.size → ¬ DkB w k) (hW : ∀ k, T k → W.heap.size ≤ k) : Dk.At W p a w' :=
  ⟨((at_kind h).off ho (fun k hk hs ht => hT k ht hk hs.2)).mono (fun k hk => hk.1), h.2.trans (ho.below h.2.size hW)⟩
theorem SgIs.cells {w : World} {g q : Nat} {s : SG} (h : SgIs w g q s) : w.cell? ⟨q, 0, none⟩ = some (.pointer (some ⟨s.p, 0, none⟩)) ∧ w.cell? ⟨q, 1, none⟩ = some (.string s.name) ∧ w.cell? ⟨q, 2, none⟩ = some (.int .i64 s.base) ∧ w.cell? ⟨q, 3, none⟩ = some (.pointer (some ⟨s.ip, 0, none⟩)) ∧ w.cell? ⟨q, 4, none⟩ = some (.slice s.B s.L.length s.d) :=
  ⟨(h.box.cell 0).trans rfl, (h.box.cell 1).trans rfl, (h.box.cell 2).trans rfl, (h.box.cell 3).trans rfl, (h.box.cell 4).trans rfl⟩
theorem SgIs.place {w : World} {g q : Nat} {s : SG} (h : SgIs w g q s) {j : Nat} {x : PX} (hj : s.L[j]? = some x) :
    ∃ b, s.B = some ⟨b, 0, none⟩ ∧ b < w.heap.size ∧ s.L.length ≤ s.d ∧ (w.cell? ⟨b, j * 8, none⟩ = some (.int .i64 x.b.base) ∧ w.cell? ⟨b, j * 8 + 1, none⟩ = some (.int .i64 x.b.span) ∧ w.cell? ⟨b, j * 8 + 2, none⟩ = some (.int .i64 x.b.prod) ∧ w.cell? ⟨b, j * 8 + 3, none⟩ = some (.int .i64 x.b.epoch) ∧ w.cell? ⟨b, j * 8 + 4, none⟩ = some (.int .i64 x.b.seq) ∧ w.cell? ⟨b, j * 8 + 5, none⟩ = some (.slice x.A x.R.length x.c) ∧ w.cell? ⟨b, j * 8 + 6, none⟩ = some (.int .i64 x.pos) ∧ w.cell? ⟨b, j * 8 + 7, none⟩ = some (.int .i64 x.size)) := by
  have hl : j < s.L.length := (List.getElem?_eq_some_iff.1 hj).1
  have hrow := h.row
  rcases hrow.2 with ⟨hv, h0⟩ | ⟨b, cap, cur, hv, hg, hh, h4, h5, h6, h7⟩
  · omega
  · injection hv with e1 e2 e3
    have hB : s.B = some ⟨b, 0, none⟩ := e1
    have hd : s.d = cap := e3
    have hc := fun i (hi : i < 8) v (hv : (plcV x)[i]? = some v) => World.ownsRow.cells hrow (g := b) (by rw [hB]; rfl) (j * 8 + i) v ((plcC_at hj hi).trans hv)
    have e1 : ∀ i, (⟨b, 0, none⟩ : Addr).add i = ⟨b, i, none⟩ := fun i => by unfold Addr.add; split <;> simp_all
    simp only [e1] at hc
    exact ⟨b, hB, lt_of_there hh, by rw [hd]; exact h4, hc 0 (by omega) _ rfl, hc 1 (by omega) _ rfl, hc 2 (by omega) _ rfl, hc 3 (by omega) _ rfl, hc 4 (by omega) _ rfl, hc 5 (by omega) _ rfl, hc 6 (by omega) _ rfl, hc 7 (by omega) _ rfl⟩
def PX.end_ (x : PX) : Int := x.b.base + x.b.span
def SG.end_ (s : SG) : Int := match s.L.getLast? with | some x => x.end_ | none => s.base
def SG.size (s : SG) : Int := match s.L.getLast? with | some x => x.pos + x.size | none => 0
/-- Numbers that may be. -/
def PxN (x : PX) : Prop := (0 ≤ x.b.base ∧ x.b.base ≤ 1099511627776) ∧ (1 ≤ x.b.span ∧ x.b.span ≤ 50) ∧ (0 ≤ x.pos ∧ x.pos ≤ 1099511627776) ∧ (0 ≤ x.size ∧ x.size ≤ 1099511627776)
theorem end_last {s : SG} {x : PX} (h : s.L[s.L.length - 1]? = some x) : s.end_ = x.end_ ∧ s.size = x.pos + x.size := by
  have : s.L.getLast? = some x := by rw [List.getLast?_eq_getElem?]; exact h
  unfold SG.end_ SG.size
  rw [this]
  exact ⟨rfl, rfl⟩
theorem end_none {s : SG} (h : s.L.length = 0) : s.end_ = s.base ∧ s.size = 0 := by
  have : s.L = [] := List.length_eq_zero_iff.1 h
  unfold SG.end_ SG.size
  rw [this]
  exact ⟨rfl, rfl⟩
end Go.Proofs.YtjnphajkoopkgaaGreatDoor
/- segment: Base, End, Size, a placed batch's end and latest time: by contracts. No condition but that the numbers may be. -/
namespace Go.Proofs.YtjnphajkoopkgaaGreatDoor
open Go.RowKit
set_option linter.unusedVariables false
def sp (q : Nat) : Value := .pointer (some ⟨q, 0, none⟩)
set_option maxHeartbeats 4000000 in
set_option maxRecDepth 100000 in
theorem pend_c (x : PX) (W : World) (h : PxN x) : Calls Tryz.prog 41 #[.agg (plcV x)] W (Good W (.int .i64 x.end_)) := by
  obtain ⟨⟨h1, h2⟩, ⟨h3, h4⟩, _⟩ := h
  obtain ⟨⟨base, span, prod, epoch, seq⟩, R, A, c, pos, size⟩ := x
  unfold plcV PX.end_
  dsimp only at *
  have hb : Below W.heap.size W (W.alloc (.cells #[.int .i64 base, .int .i64 span, .int .i64 prod, .int .i64 epoch, .int .i64 seq, .slice A R.length c, .int .i64 pos, .int .i64 size] 91)) := (Below.refl _ _).alloc (Nat.le_refl _) _
  have HB := Lib.hid hb
  clear hb
  go_enter Tryz.func41, Tryz.ntmps41
  go_wp2_with fail
  go_ret
  exact ⟨rfl, HB.out⟩
theorem base_c (s : SG) (g q : Nat) (W : World) (h : SgIs W g q s) : Calls Tryz.prog 13 #[sp q] W (fun e w' => e = .returned (.int .i64 s.base) ∧ w' = W) := by
  obtain ⟨y0, y1, y2, y3, y4⟩ := h.cells
  unfold sp
  clear h
  go_enter Tryz.func13, Tryz.ntmps13
  go_wp2_with fail
  go_ret
  exact ⟨rfl, rfl⟩
set_option maxHeartbeats 4000000 in
set_option maxRecDepth 100000 in
theorem end_c (s : SG) (g q : Nat) (W : World) (h : SgIs W g q s) (hn : ∀ x ∈ s.L, PxN x) (hl : s.L.length ≤ 1000000) : Calls Tryz.prog 14 #[sp q] W (Good W (.int .i64 s.end_)) := by
  obtain ⟨y0, y1, y2, y3, y4⟩ := h.cells
  unfold sp
  by_cases hz : s.L.length = 0
  · rw [(end_none hz).1]
    have hz' : ((s.L.length : Nat) : Int) = 0 := by omega
    generalize s.L.length = n at *
    subst hz
    clear h hn
    go_enter Tryz.func14, Tryz.ntmps14
    go_wp2_with fail
    go_ret
    exact ⟨rfl, Below.refl _ _⟩
  · obtain ⟨x, hx⟩ : ∃ x, s.L[s.L.length - 1]? = some x := ⟨_, List.getElem?_eq_getElem (by omega)⟩
    obtain ⟨b, hB, hbl, hd, z0, z1, z2, z3, z4, z5, z6, z7⟩ := h.place hx
    rw [(end_last hx).1]
    have cp := fun w => pend_c x w (hn x (List.mem_of_getElem? hx))
    have CP := Lib.hid cp
    have hp : (0 : Int) < (s.L.length : Int) := by omega
    have hk : ((s.L.length : Nat) : Int) - 1 = ((s.L.length - 1 : Nat) : Int) := by omega
    rw [hB] at y4
    generalize x.end_ = en at *
    unfold plcV at cp
    obtain ⟨⟨base, span, prod, epoch, seq⟩, R, A, c, pos, size⟩ := x
    dsimp only at *
    clear h hn hx hz CP
    generalize hj : s.L.length - 1 = j at *
    generalize s.L.length = n at *
    have hk0 : (0 : Int) ≤ (j : Int) := by omega
    have hkn : (j : Int) < (n : Int) := by omega
    generalize hj8 : j * 8 = j8 at *
    go_enter Tryz.func14, Tryz.ntmps14
    go_wp2_with fail
    (with_reducible refine (cp _).mono ?_)
    rintro e w1 ⟨rfl, hb⟩
    have HB := Lib.hid hb
    clear hb cp
    go_wp2_with fail
    go_ret
    exact ⟨rfl, HB.out⟩
set_option maxHeartbeats 4000000 in
set_option maxRecDepth 100000 in
theorem size_c (s : SG) (g q : Nat) (W : World) (h : SgIs W g q s) (hn : ∀ x ∈ s.L, PxN x) (hl : s.L.length ≤ 1000000) : Calls Tryz.prog 16 #[sp q] W (Good W (.int .i64 s.size)) := by
  obtain ⟨y0, y1, y2, y3, y4⟩ := h.cells
  have hql := h.box.lt
  unfold sp
  by_cases hz : s.L.length = 0
  · rw [(end_none hz).2]
    generalize s.L.length = n at *
    subst hz
    clear h hn
    go_enter Tryz.func16, Tryz.ntmps16
    go_wp2_with fail
    go_ret
    exact ⟨rfl, Below.refl _ _⟩
  · obtain ⟨x, hx⟩ : ∃ x, s.L[s.L.length - 1]? = some x := ⟨_, List.getElem?_eq_getElem (by omega)⟩
    obtain ⟨b, hB, hbl, hd, z0, z1, z2, z3, z4, z5, z6, z7⟩ := h.place hx
    rw [(end_last hx).2]
    obtain ⟨_, _, ⟨n1, n2⟩, n3, n4⟩ := hn x (List.mem_of_getElem? hx)
    have hp : ((s.L.length : Int) == 0) = false := by rw [beq_eq_false_iff_ne]; omega
    have hk : ((s.L.length : Nat) : Int) - 1 = ((s.L.length - 1 : Nat) : Int) := by omega
    rw [hB] at y4
    obtain ⟨⟨base, span, prod, epoch, seq⟩, R, A, c, pos, size⟩ := x
    dsimp only at *
    clear h hn hx hz
    generalize hj : s.L.length - 1 = j at *
    generalize s.L.length = n at *
    have hk0 : (0 : Int) ≤ (j : Int) := by omega
    have hkn : (j : Int) < (n : Int) := by omega
    generalize hj8 : j * 8 = j8 at *
    go_enter Tryz.func16, Tryz.ntmps16
    go_wp2_with fail
    go_region
    all_goals (go_wp2_with fail)
    all_goals (go_ret; exact ⟨rfl, ((Below.refl _ _).alloc (Nat.le_refl _) _).trans ⟨rfl, rfl, rfl, Nat.le_refl _, fun _ _ => rfl⟩⟩)
/-- The latest time of records; 0, if there is none later. -/
def lateG (R : List Rec) : Int := R.foldl (fun t r => max t r.time) 0
theorem lateG_step {R : List Rec} {k : Nat} {r : Rec} (h : R[k]? = some r) : lateG (R.take (k + 1)) = max (lateG (R.take k)) r.time := by
  rw [List.take_add_one, h]
  unfold lateG
  rw [List.foldl_append]
  rfl
set_option maxHeartbeats 4000000 in
set_option maxRecDepth 100000 in
theorem latest_c (x : PX) (W : World) (h : RsIn W x.A x.R) (hl : x.R.length ≤ 1000000) : Calls Tryz.prog 86 #[.agg (plcV x)] W (Good W (.int .i64 (lateG (x.R.map (·.1))))) := by
  obtain ⟨⟨base, span, prod, epoch, seq⟩, R, A, c, pos, size⟩ := x
  unfold plcV
  dsimp only at *
  have hb : Below W.heap.size W (W.alloc (.cells #[.int .i64 base, .int .i64 span, .int .i64 prod, .int .i64 epoch, .int .i64 seq, .slice A R.length c, .int .i64 pos, .int .i64 size] 91)) := (Below.refl _ _).alloc (Nat.le_refl _) _
  have HB := Lib.hid hb
  have HR := Lib.hid h
  clear hb h
  go_enter Tryz.func86, Tryz.ntmps86
  go_wp2_with fail
  go_loopw [3, 10] (fun t i wr => ∃ (k : Nat) (m : Int), t = .int .i64 m ∧ i = .int .i64 k ∧ k ≤ R.length ∧ m = lateG ((R.map (·.1)).take k) ∧ Below W.heap.size W wr) (fun _ i _ => R.length - (intOf i).toNat)
  case atStart => exact ⟨0, 0, rfl, rfl, Nat.zero_le _, rfl, HB.out⟩
  case round =>
    obtain ⟨k, m, rfl, rfl, hk, hm, hbw⟩ := hrel
    by_cases hkl : k < R.length
    · obtain ⟨y, hy⟩ : ∃ y, R[k]? = some y := ⟨_, List.getElem?_eq_getElem hkl⟩
      obtain ⟨b, off, rfl, hbl, hc⟩ := (HR.out.below hbw) (by omega)
      obtain ⟨⟨p0, p1, p2, p3, p4, p5, p6⟩, _⟩ := hc k y hy
      have HY := Lib.hid (lateG_step (show (R.map (·.1))[k]? = some y.1 by rw [List.getElem?_map, hy]; rfl))
      have hki : (k : Int) < (R.length : Int) := by omega
      have hk0 : (0 : Int) ≤ (k : Int) := by omega
      obtain ⟨⟨pl, tm, ba, ky, gn, va, hs⟩, hA2, hcc⟩ := y
      dsimp only at *
      have HW := Lib.hid (hbw.alloc hbw.size (.cells #[.int .i64 pl, .int .i64 tm, .bool ba, .string ky, .bool gn, .string va, .slice hA2 hs.length hcc] 85))
      have HM := Lib.hid hm
      clear hbw hc hy hm
      generalize hk7 : k * 7 = k7 at *
      go_wp2_with fail
      go_roundw
      case rel => exact ⟨k + 1, max m tm, rfl, by go_num, hkl, by rw [HY.out, HM.out], HW.out⟩
      case measure => simp [intOf]; omega
    · have hki : ¬ (k : Int) < (R.length : Int) := by omega
      have e1 : (R.map (·.1)).take k = R.map (·.1) := List.take_of_length_le (by rw [List.length_map]; omega)
      rw [e1] at hm
      have HW := Lib.hid hbw
      have HM := Lib.hid hm
      clear hbw hm e1
      go_wp2_with fail
      go_ret
      exact ⟨by rw [HM.out]; rfl, HW.out⟩
end Go.Proofs.YtjnphajkoopkgaaGreatDoor
/- Rows of structs of the call's own: appended, cut: plain words. No condition but that they are not too many. -/
namespace Go.Proofs.YtjnphajkoopkgaaGreatDoor
open Go.RowKit
set_option linter.unusedVariables false
/-- What a slice reads as, cell by cell; nil where it has no place. -/
def SrcZ (sz : Nat) (w : World) (u : Value) (m : Nat) (ys : List Value) : Prop :=
  (∃ c, u = .slice none 0 c ∧ m = 0 ∧ ys = []) ∨ ∃ a c, u = .slice (some a) m c ∧ ys.length = m * sz ∧ ∀ j y, ys[j]? = some y → w.cell? (a.add j) = some y
theorem append_none {e t : TypeId} (ht : Tryz.prog.underlying t = some (.slice e)) (v : Value) (c : Nat) (hv : v = .slice none 0 0 ∨ ∃ a n m, v = .slice (some a) n m ∧ n ≤ m) (w : World) {i0 : TypeInfo} (hi : Tryz.prog.info? e = some i0) :
    (Builtin.append_ #[t, t] t #[v, .slice none 0 c]).run Tryz.prog w = .ok v w := by
  rcases hv with rfl | ⟨a, n, m, rfl, hnm⟩
  · simp [Builtin.append_, run_underlying ht, sizeOf, typeInfo, hi, Builtin.lenOf, Builtin.firstCells]
  · simp [Builtin.append_, run_underlying ht, sizeOf, typeInfo, hi, Builtin.lenOf, Builtin.firstCells, hnm, storeCells]
/-- One row behind another one. -/
theorem catZ {e t : TypeId} {w : World} {base n m sz : Nat} {v u z : Value} {xs ys : List Value} {by_ : Nat} (hsz : 0 < sz) (ht : Tryz.prog.underlying t = some (.slice e)) (hinfo : (Tryz.prog.info? e).map (fun i => (i.zero, i.size, i.bytes)) = some (some z, sz, by_)) (hz : z.cells.size = sz) (hby : by_ ≤ 128)
    (hown : w.ownsRow base e sz v n xs) (hsrc : SrcZ sz w u m ys) (h1 : ∀ y ∈ ys, y.oneCell' = true) (hb : base ≤ w.heap.size) (hn : n + m ≤ 2000000) :
    ∃ (A' : Option Addr) (c' : Nat) (w' : World), (Builtin.append_ #[t, t] t #[v, u]).run Tryz.prog w = .ok (.slice A' (n + m) c') w' ∧ w'.ownsRow base e sz (.slice A' (n + m) c') (n + m) (xs ++ ys) ∧ w.grownBy w' v.ownBlock := by
  obtain ⟨i0, hi, hz0, hz1, hz2⟩ := info_parts hinfo
  rcases hsrc with ⟨c, rfl, rfl, rfl⟩ | ⟨a, c, rfl, hl, hc⟩
  · have hr := append_none ht v c (own_room hown) w hi
    rcases hown.2 with ⟨hv, h0⟩ | ⟨g, cap', cur, hv, _⟩
    · subst hv h0
      exact ⟨none, 0, w, hr, by simpa using hown, ⟨rfl, rfl, rfl, Nat.le_refl _, fun _ _ _ => rfl⟩⟩
    · subst hv
      exact ⟨_, _, w, hr, by simpa using hown, ⟨rfl, rfl, rfl, Nat.le_refl _, fun _ _ _ => rfl⟩⟩
  · obtain ⟨v', w', k1, k2, k3, k4, k5⟩ := run_append_own_at (P := Tryz.prog) (w := w) base t t e i0 z sz by_ ht hi hz0 hz1 hz2 hz hsz v n xs hown a m c ys hl hc h1 (by unfold maxLen; omega) (by have := Nat.mul_le_mul_left (n + m) hby; omega) hb
    rcases k2.2 with ⟨hv, h0⟩ | ⟨g, cap', cur, hv, _⟩
    · subst hv
      rw [show n + m = 0 from h0] at k2 ⊢
      exact ⟨none, 0, w', k1, k2, k3⟩
    · subst hv
      exact ⟨_, _, w', k1, k2, k3⟩
theorem SrcZ.kept {sz m : Nat} {w w' : World} {u : Value} {ys : List Value} (h : SrcZ sz w u m ys) (hb : Below w.heap.size w w') : SrcZ sz w' u m ys := by
  rcases h with h | ⟨a, c, h1, h2, h3⟩
  · exact .inl h
  · refine .inr ⟨a, c, h1, h2, fun j y hy => ?_⟩
    have h4 := h3 j y hy
    rw [← h4]
    refine World.cell?_of_block (hb.block _ ?_)
    rcases Nat.lt_or_ge (a.add j).block w.heap.size with h | h
    · exact h
    · exfalso
      unfold World.cell? at h4
      rw [Array.getElem?_eq_none h] at h4
      simp at h4
end Go.Proofs.YtjnphajkoopkgaaGreatDoor
/- segment: put: one batch more: by a contract. No condition but that there are not too many. -/
namespace Go.Proofs.YtjnphajkoopkgaaGreatDoor
open Go.RowKit
set_option linter.unusedVariables false
theorem step_append_run {P : Program} {w w' : World} {ops : Array Oper} {o : Oper} {a : Act} {K : Act → World → Prop} {Q : Exit → Act → World → Prop} {E : Prop} (hgd : o.guard = none) (s x : Operand) (t : TypeId) (ho : o.op = .call { callee := .builtin .append, args := #[s, x], argTypes := #[t, t] })
    (v u v' : Value) (hs : a.eval s = v) (hx : a.eval x = u) (hr : (Builtin.append_ #[t, t] o.type #[v, u]).run P w = .ok v' w') (h : K (a.put o.dst v') w') : if Region.wanted o (yielded ops a.tmps) = true then Oper.wp P o a w K Q else E := by
  have hw : Region.wanted o (yielded ops a.tmps) = true := by simp [Region.wanted, hgd]
  rw [if_pos hw]
  unfold Oper.wp execOp
  simp only [ho, resolve, invoke, builtin, Sem.run_bind, Sem.run_pure, Result.andThen_ok, List.map_toArray, List.map_cons, List.map_nil, hs, hx, hr]
  exact h
theorem plcInfo : (Tryz.prog.info? 91).map (fun i => (i.zero, i.size, i.bytes)) = some (some (.agg #[.int .i64 0, .int .i64 0, .int .i64 0, .int .i64 0, .int .i64 0, .slice none 0 0, .int .i64 0, .int .i64 0]), 8, 80) := by kernel_rfl
theorem plc_one (x : PX) : ∀ u ∈ (plcV x).toList, u.oneCell' = true := by
  intro u hu
  unfold plcV at hu
  simp at hu
  rcases hu with h | h | h | h | h | h | h | h <;> (subst h; rfl)
/-- Behind put. -/
def SG.put (s : SG) (x : PX) (iA : Option Addr) (iC : Nat) (B : Option Addr) (d : Nat) : SG := { s with x := s.x.add x.b.base x.pos (lateG (x.R.map (·.1))), iA := iA, iC := iC, L := s.L ++ [x], B := B, d := d }
def GotPut (W : World) (g q : Nat) (s : SG) (x : PX) (e : Ending) (w' : World) : Prop :=
  e = .returned (.tuple #[]) ∧ ∃ iA iC B d, SgIs w' g q (s.put x iA iC B d) ∧ Off (SgF s q) W w' ∧ ∀ k, SgF (s.put x iA iC B d) q k → SgF s q k ∨ W.heap.size ≤ k
structure PtK (W : World) (g q : Nat) (s : SG) (w : World) : Prop where
  is : SgIs w g q s
  bel : Below W.heap.size W w
  lt : W.heap.size < w.heap.size
theorem PtK.later {W w w' : World} {g q : Nat} {s : SG} (h : PtK W g q s w) (hb : Below w.heap.size w w') : PtK W g q s w' := ⟨h.is.later hb, h.bel.trans (hb.mono h.bel.size), Nat.lt_of_lt_of_le h.lt hb.size⟩
def C6s (w : World) (k : Nat) (base span prod epoch seq : Int) (v : Value) : Prop := w.cell? ⟨k, 0, none⟩ = some (.int .i64 base) ∧ w.cell? ⟨k, 1, none⟩ = some (.int .i64 span) ∧ w.cell? ⟨k, 2, none⟩ = some (.int .i64 prod) ∧ w.cell? ⟨k, 3, none⟩ = some (.int .i64 epoch) ∧ w.cell? ⟨k, 4, none⟩ = some (.int .i64 seq) ∧ w.cell? ⟨k, 5, none⟩ = some v
theorem C6s.off {S : Nat → Prop} {w w' : World} {k : Nat} {base span prod epoch seq : Int} {v : Value} (h : C6s w k base span prod epoch seq v) (ho : Off S w w') (hk : k < w.heap.size) (hS : ¬ S k) : C6s w' k base span prod epoch seq v :=
  ⟨(ho.cell (p := ⟨k, 0, none⟩) hk hS).trans h.1, (ho.cell (p := ⟨k, 1, none⟩) hk hS).trans h.2.1, (ho.cell (p := ⟨k, 2, none⟩) hk hS).trans h.2.2.1, (ho.cell (p := ⟨k, 3, none⟩) hk hS).trans h.2.2.2.1, (ho.cell (p := ⟨k, 4, none⟩) hk hS).trans h.2.2.2.2.1, (ho.cell (p := ⟨k, 5, none⟩) hk hS).trans h.2.2.2.2.2⟩
theorem C6s.later {w w' : World} {k : Nat} {base span prod epoch seq : Int} {v : Value} (h : C6s w k base span prod epoch seq v) (hk : k < w.heap.size) (hb : Below w.heap.size w w') : C6s w' k base span prod epoch seq v :=
  ⟨(hb.cell (p := ⟨k, 0, none⟩) hk).trans h.1, (hb.cell (p := ⟨k, 1, none⟩) hk).trans h.2.1, (hb.cell (p := ⟨k, 2, none⟩) hk).trans h.2.2.1, (hb.cell (p := ⟨k, 3, none⟩) hk).trans h.2.2.2.1, (hb.cell (p := ⟨k, 4, none⟩) hk).trans h.2.2.2.2.1, (hb.cell (p := ⟨k, 5, none⟩) hk).trans h.2.2.2.2.2⟩
abbrev zPl : Array Value := #[.int .i64 0, .int .i64 0, .int .i64 0, .int .i64 0, .int .i64 0, .slice none 0 0, .int .i64 0, .int .i64 0]
theorem zfacts {w w2 : World} (hb : Below (w.alloc (.cells zPl 91)).drew.heap.size (w.alloc (.cells zPl 91)).drew w2) :
    (w2.cell? ⟨w.heap.size, 0, none⟩ = some (.int .i64 0) ∧ w2.cell? ⟨w.heap.size, 1, none⟩ = some (.int .i64 0) ∧ w2.cell? ⟨w.heap.size, 2, none⟩ = some (.int .i64 0) ∧ w2.cell? ⟨w.heap.size, 3, none⟩ = some (.int .i64 0) ∧ w2.cell? ⟨w.heap.size, 4, none⟩ = some (.int .i64 0) ∧ w2.cell? ⟨w.heap.size, 5, none⟩ = some (.slice none 0 0) ∧ w2.cell? ⟨w.heap.size, 6, none⟩ = some (.int .i64 0) ∧ w2.cell? ⟨w.heap.size, 7, none⟩ = some (.int .i64 0)) ∧
    (w2.frozen? ⟨w.heap.size, 0, none⟩ = false ∧ w2.frozen? ⟨w.heap.size, 1, none⟩ = false ∧ w2.frozen? ⟨w.heap.size, 2, none⟩ = false ∧ w2.frozen? ⟨w.heap.size, 3, none⟩ = false ∧ w2.frozen? ⟨w.heap.size, 4, none⟩ = false ∧ w2.frozen? ⟨w.heap.size, 5, none⟩ = false ∧ w2.frozen? ⟨w.heap.size, 6, none⟩ = false ∧ w2.frozen? ⟨w.heap.size, 7, none⟩ = false) ∧ w.heap.size < w2.heap.size ∧ Box w2 w.heap.size 91 zPl := by
  have h : Box w2 w.heap.size 91 zPl := (show Box (w.alloc (.cells zPl 91)).drew w.heap.size 91 zPl from Box.new w _ _).later hb
  exact ⟨⟨h.cell 0, h.cell 1, h.cell 2, h.cell 3, h.cell 4, h.cell 5, h.cell 6, h.cell 7⟩, ⟨h.frozen 0, h.frozen 1, h.frozen 2, h.frozen 3, h.frozen 4, h.frozen 5, h.frozen 6, h.frozen 7⟩, h.lt, h⟩
structure S2 (q ip p6 : Nat) (v0 v1 v2 v3 v4 v5 v6 v7 : Value) (w : World) : Prop where
  y3 : w.cell? ⟨q, 3, none⟩ = some (.pointer (some ⟨ip, 0, none⟩))
  ql : q < w.heap.size
  pl : p6 < w.heap.size
  x0 : w.cell? ⟨p6, 0, none⟩ = some v0
  x1 : w.cell? ⟨p6, 1, none⟩ = some v1
  x2 : w.cell? ⟨p6, 2, none⟩ = some v2
  x3 : w.cell? ⟨p6, 3, none⟩ = some v3
  x4 : w.cell? ⟨p6, 4, none⟩ = some v4
  x5 : w.cell? ⟨p6, 5, none⟩ = some v5
  x6 : w.cell? ⟨p6, 6, none⟩ = some v6
  x7 : w.cell? ⟨p6, 7, none⟩ = some v7
theorem S2.out {q ip p6 : Nat} {v0 v1 v2 v3 v4 v5 v6 v7 : Value} {w : World} (h : S2 q ip p6 v0 v1 v2 v3 v4 v5 v6 v7 w) : w.cell? ⟨q, 3, none⟩ = some (.pointer (some ⟨ip, 0, none⟩)) ∧ w.cell? ⟨p6, 0, none⟩ = some v0 ∧ w.cell? ⟨p6, 1, none⟩ = some v1 ∧ w.cell? ⟨p6, 2, none⟩ = some v2 ∧ w.cell? ⟨p6, 3, none⟩ = some v3 ∧ w.cell? ⟨p6, 4, none⟩ = some v4 ∧ w.cell? ⟨p6, 5, none⟩ = some v5 ∧ w.cell? ⟨p6, 6, none⟩ = some v6 ∧ w.cell? ⟨p6, 7, none⟩ = some v7 :=
  ⟨h.y3, h.x0, h.x1, h.x2, h.x3, h.x4, h.x5, h.x6, h.x7⟩
theorem S2.later {q ip p6 : Nat} {v0 v1 v2 v3 v4 v5 v6 v7 : Value} {w w' : World} (h : S2 q ip p6 v0 v1 v2 v3 v4 v5 v6 v7 w) (hb : Below w.heap.size w w') : S2 q ip p6 v0 v1 v2 v3 v4 v5 v6 v7 w' :=
  ⟨(hb.cell (p := ⟨q, 3, none⟩) h.ql).trans h.y3, Nat.lt_of_lt_of_le h.ql hb.size, Nat.lt_of_lt_of_le h.pl hb.size, (hb.cell (p := ⟨p6, 0, none⟩) h.pl).trans h.x0, (hb.cell (p := ⟨p6, 1, none⟩) h.pl).trans h.x1, (hb.cell (p := ⟨p6, 2, none⟩) h.pl).trans h.x2, (hb.cell (p := ⟨p6, 3, none⟩) h.pl).trans h.x3, (hb.cell (p := ⟨p6, 4, none⟩) h.pl).trans h.x4, (hb.cell (p := ⟨p6, 5, none⟩) h.pl).trans h.x5, (hb.cell (p := ⟨p6, 6, none⟩) h.pl).trans h.x6, (hb.cell (p := ⟨p6, 7, none⟩) h.pl).trans h.x7⟩
def set8 (w : World) (b : Nat) (v0 v1 v2 v3 v4 v5 v6 v7 : Value) : World := (((((((w.setCell ⟨b, 0, none⟩ v0).setCell ⟨b, 1, none⟩ v1).setCell ⟨b, 2, none⟩ v2).setCell ⟨b, 3, none⟩ v3).setCell ⟨b, 4, none⟩ v4).setCell ⟨b, 5, none⟩ v5).setCell ⟨b, 6, none⟩ v6).setCell ⟨b, 7, none⟩ v7
theorem set8_box {w : World} {b t : Nat} {z0 z1 z2 z3 z4 z5 z6 z7 : Value} (h : Box w b t #[z0, z1, z2, z3, z4, z5, z6, z7]) (v0 v1 v2 v3 v4 v5 v6 v7 : Value) : Box (set8 w b v0 v1 v2 v3 v4 v5 v6 v7) b t #[v0, v1, v2, v3, v4, v5, v6, v7] := by
  have h0 : Box (w.setCell ⟨b, 0, none⟩ v0) b t #[v0, z1, z2, z3, z4, z5, z6, z7] := h.set 0 v0
  have h1 : Box ((w.setCell ⟨b, 0, none⟩ v0).setCell ⟨b, 1, none⟩ v1) b t #[v0, v1, z2, z3, z4, z5, z6, z7] := h0.set 1 v1
  have h2 := h1.set 2 v2
  have h2 : Box _ b t #[v0, v1, v2, z3, z4, z5, z6, z7] := h2
  have h3 : Box _ b t #[v0, v1, v2, v3, z4, z5, z6, z7] := h2.set 3 v3
  have h4 : Box _ b t #[v0, v1, v2, v3, v4, z5, z6, z7] := h3.set 4 v4
  have h5 : Box _ b t #[v0, v1, v2, v3, v4, v5, z6, z7] := h4.set 5 v5
  have h6 : Box _ b t #[v0, v1, v2, v3, v4, v5, v6, z7] := h5.set 6 v6
  exact h6.set 7 v7
theorem set8_off (w : World) (b : Nat) (v0 v1 v2 v3 v4 v5 v6 v7 : Value) : Off (· = b) w (set8 w b v0 v1 v2 v3 v4 v5 v6 v7) :=
  ((((((((Off.refl (· = b) w).set (p := ⟨b, 0, none⟩) (.inl rfl) v0).set (p := ⟨b, 1, none⟩) (.inl rfl) v1).set (p := ⟨b, 2, none⟩) (.inl rfl) v2).set (p := ⟨b, 3, none⟩) (.inl rfl) v3).set (p := ⟨b, 4, none⟩) (.inl rfl) v4).set (p := ⟨b, 5, none⟩) (.inl rfl) v5).set (p := ⟨b, 6, none⟩) (.inl rfl) v6).set (p := ⟨b, 7, none⟩) (.inl rfl) v7
theorem PtK.set8 {W W1 w2 : World} {g q : Nat} {s : SG} (h1 : PtK W g q s W1) (h2 : PtK W g q s w2) (hz : Box w2 W1.heap.size 91 zPl) (v0 v1 v2 v3 v4 v5 v6 v7 : Value) : PtK W g q s (set8 w2 W1.heap.size v0 v1 v2 v3 v4 v5 v6 v7) := by
  have hO := set8_off w2 W1.heap.size v0 v1 v2 v3 v4 v5 v6 v7
  have hl := h1.lt
  refine ⟨h2.is.off hO (fun k hk e => ?_) (fun k e hr => ?_), h2.bel.trans (hO.below h2.bel.size (fun k e => by omega)), Nat.lt_of_lt_of_le h2.lt hO.size⟩
  · have := (sg_low h1.is hk).2
    omega
  · subst e
    exact hr.apart (.box hz (List.mem_singleton.2 rfl)) (by decide)
/-- The index has one more. -/
theorem SgIs.added {w w' : World} {g q : Nat} {s : SG} {x' : Ix.Ix} {iA : Option Addr} {iC : Nat} (h : SgIs w g q s) (hix : Ix.IxIs w' g s.ip x' iA iC) (ho : Off (fun k => k = s.ip ∨ Ix.blk s.iA k) w w') :
    SgIs w' g q { s with x := x', iA := iA, iC := iC } := by
  have hty : ∀ k, (k = s.ip ∨ Ix.blk s.iA k) → TyB [114, 153] w k := fun k hk => by
    rcases hk with rfl | hk
    · exact .box h.ix.box (by decide)
    · exact .row h.ix.row (row_blk h.ix.row hk) (by decide)
  refine ⟨h.box.off ho (fun hk => ?_), hix, own_off h.row ho (fun k hk ht => ?_), fun x hx => rowR_off (h.recs x hx) ho (fun k ht hr => (hty k ht).apart hr (by decide)), h.lo⟩
  · exact (hty _ hk).apart (.box h.box (List.mem_singleton.2 rfl)) (by decide)
  · exact (hty k ht).apart (.row h.row hk (List.mem_singleton.2 rfl)) (by decide)
theorem placed_not {w : World} {g q p6 : Nat} {s : SG} {cs : Array Value} (h : SgIs w g q s) (hk : p6 = s.ip ∨ Ix.blk s.iA p6) (hb : Box w p6 91 cs) : False := by
  have ht : TyB [114, 153] w p6 := by
    rcases hk with rfl | hk
    · exact .box h.ix.box (by decide)
    · exact .row h.ix.row (row_blk h.ix.row hk) (by decide)
  exact ht.apart (.box hb (List.mem_singleton.2 rfl)) (by decide)
theorem sgf_ix {s : SG} {q k : Nat} (h : k = s.ip ∨ Ix.blk s.iA k) : SgF s q k := by
  rcases h with h | h
  · exact .inr (.inl h)
  · exact .inr (.inr (.inl h))
/-- Records stay under what writes a segment's own blocks. -/
theorem RowR.off4 {w w' : World} {g q base : Nat} {s : SG} {v : Value} {L : List RX} (h : RowR w base v L) (ho : Off (SgF s q) w w') (hI : SgIs w g q s) : RowR w' base v L :=
  rowR_off h ho (fun k hk hr => (sg_kind hI hk).apart hr (by decide))
/-- The row of batches has one more. -/
theorem SgIs.longer {w : World} {g q : Nat} {s : SG} (h : SgIs w g q s) (hg : g ≤ w.heap.size) (x : PX) (hx : RowR w g (.slice x.A x.R.length x.c) x.R) (hl : s.L.length ≤ 1000000) :
    ∃ (b' d' : Nat) (w' : World), (Builtin.append_ #[76, 76] 76 #[.slice s.B s.L.length s.d, .slice (some ⟨w.heap.size, 0, none⟩) 1 1]).run Tryz.prog (w.alloc (.cells (plcV x) 91)) = .ok (.slice (some ⟨b', 0, none⟩) (s.L.length + 1) d') w' ∧
      Box w' q 78 (sgC s) ∧ SgIs (w'.setCell ⟨q, 4, none⟩ (.slice (some ⟨b', 0, none⟩) (s.L.length + 1) d')) g q { s with L := s.L ++ [x], B := some ⟨b', 0, none⟩, d := d' } ∧
      Off (SgF s q) w (w'.setCell ⟨q, 4, none⟩ (.slice (some ⟨b', 0, none⟩) (s.L.length + 1) d')) ∧ (Ix.blk s.B b' ∨ w.heap.size ≤ b') := by
  have hA : Below w.heap.size w (w.alloc (.cells (plcV x) 91)) := (Below.refl _ _).alloc (Nat.le_refl _) _
  have h' := h.later hA
  have hx' := hx.later hA
  have hbn := Box.new w 91 (plcV x)
  have hsz : g ≤ (w.alloc (.cells (plcV x) 91)).heap.size := Nat.le_trans hg hA.size
  have hsz2 : w.heap.size < (w.alloc (.cells (plcV x) 91)).heap.size := by rw [World.size_alloc]; omega
  generalize hw9 : w.alloc (.cells (plcV x) 91) = w9 at *
  obtain ⟨i0, hq, hqz, hqs, hqb⟩ := info_parts plcInfo
  obtain ⟨b', d', w', r1, o1, g1, hb1, hlt⟩ := run_append_lies (P := Tryz.prog) (w := w9) 76 76 g 91 i0 (.agg #[.int .i64 0, .int .i64 0, .int .i64 0, .int .i64 0, .int .i64 0, .slice none 0 0, .int .i64 0, .int .i64 0]) 8 80 Tryz.underlying76 hq hqz hqs hqb rfl (by decide) _ s.L.length (plcC s.L) h'.row ⟨w.heap.size, 0, none⟩ 1 1 (plcV x).toList rfl (news_at hbn) (plc_one x) (by decide) (by unfold maxLen; omega) (by omega) hsz w9.heap.size rfl
  have hne : ∀ k, (Value.slice s.B s.L.length s.d).ownBlock = some k → k ≠ q := fun k hk e => by
    subst e
    exact (TyB.row h'.row hk (List.mem_singleton.2 rfl) (ts := [91])).apart (.box h'.box (List.mem_singleton.2 rfl)) (by decide)
  have hbx : Box w' q 78 (sgC s) := h'.box.kept_by g1 (by
    cases ho : (Value.slice s.B s.L.length s.d).ownBlock with
    | none => exact .inl rfl
    | some k => exact .inr (fun e => hne k ho (by injection e)))
  have hO : Off (fun k => (Value.slice s.B s.L.length s.d).ownBlock = some k) w9 w' := (Off.refl _ w9).grown g1 (fun k hk _ => hk)
  have hO2 : Off (· = q) w' (w'.setCell ⟨q, 4, none⟩ (.slice (some ⟨b', 0, none⟩) (s.L.length + 1) d')) := Off.one w' ⟨q, 4, none⟩ _
  have htb : ∀ k, (Value.slice s.B s.L.length s.d).ownBlock = some k → TyB [91] w9 k := fun k hk => .row h'.row hk (List.mem_singleton.2 rfl)
  have hix : Ix.IxIs w' g s.ip s.x s.iA s.iC := ix_off h'.ix hO (fun hk => (htb _ hk).apart (.box h'.ix.box (List.mem_singleton.2 rfl)) (by decide)) (fun k hk ht => (htb k ht).apart (.row h'.ix.row (row_blk h'.ix.row hk) (List.mem_singleton.2 rfl)) (by decide))
  have htq : TyB [78] w' q := .box hbx (List.mem_singleton.2 rfl)
  have hrec : ∀ y ∈ s.L ++ [x], RowR w' g (.slice y.A y.R.length y.c) y.R := fun y hy => by
    have h0 : RowR w9 g (.slice y.A y.R.length y.c) y.R := by
      rcases List.mem_append.1 hy with hy | hy
      · exact h'.recs y hy
      · have : y = x := by simpa using hy
        subst this
        exact hx'
    exact rowR_off h0 hO (fun k ht hr => (htb k ht).apart hr (by decide))
  have hlen : (s.L ++ [x]).length = s.L.length + 1 := by rw [List.length_append]; rfl
  refine ⟨b', d', w', r1, hbx, ⟨?_, ix_off hix hO2 (fun e => ?_) (fun k hk e => ?_), ?_, fun y hy => rowR_off (hrec y hy) hO2 (fun k e hr => ?_), h.lo⟩, ?_, ?_⟩
  · have := hbx.set 4 (.slice (some ⟨b', 0, none⟩) (s.L.length + 1) d')
    unfold sgC at this ⊢
    dsimp only at this ⊢
    rw [hlen]
    exact this
  · have e' : s.ip = q := e
    exact (TyB.box hix.box (List.mem_singleton.2 rfl) (ts := [114])).apart (e' ▸ htq) (by decide)
  · have e' : k = q := e
    subst e'
    exact (TyB.row hix.row (row_blk hix.row hk) (List.mem_singleton.2 rfl) (ts := [153])).apart htq (by decide)
  · dsimp only
    rw [hlen, plcC_snoc]
    exact own_off o1 hO2 (fun k hk e => by
      have e' : k = q := e
      subst e'
      exact (TyB.row o1 hk (List.mem_singleton.2 rfl) (ts := [91])).apart htq (by decide))
  · have e' : k = q := e
    subst e'
    exact hr.apart htq (by decide)
  · refine ((Off.of_below (SgF s q) hA).trans (hO.mono (fun k _ hk => (.inr (.inr (.inr (own_blk hk))) : SgF s q k))) (fun _ _ h => h)).trans hO2 (fun k _ e => .inl e)
  · rcases hb1 with hb1 | hb1
    · exact .inl (own_blk hb1)
    · exact .inr (by omega)
theorem put_done {W w3 w4 w6 : World} {g q : Nat} {s : SG} {x : PX} {iA : Option Addr} {iC b5 d5 : Nat} (ho : Off (SgF s q) W w4) (hn : (∀ k, Ix.blk iA k → Ix.blk s.iA k ∨ w3.heap.size ≤ k) ∧ W.heap.size ≤ w3.heap.size)
    (hI : SgIs w6 g q { s with x := s.x.add x.b.base x.pos (lateG (x.R.map (·.1))), iA := iA, iC := iC, L := s.L ++ [x], B := some ⟨b5, 0, none⟩, d := d5 }) (ho2 : Off (SgF { s with x := s.x.add x.b.base x.pos (lateG (x.R.map (·.1))), iA := iA, iC := iC } q) w4.drew w6) (hb : Ix.blk s.B b5 ∨ w4.drew.heap.size ≤ b5) :
    GotPut W g q s x (.returned (.tuple #[])) w6 := by
  refine ⟨rfl, iA, iC, some ⟨b5, 0, none⟩, d5, hI, ho.drew.trans ho2 (fun i hi hk => ?_), fun k hk => ?_⟩
  · rcases hk with hk | hk | hk | hk
    · exact .inl hk
    · exact .inr (.inl hk)
    · rcases hn.1 i hk with h | h
      · exact .inr (.inr (.inl h))
      · have := hn.2; omega
    · exact .inr (.inr (.inr hk))
  · rcases hk with hk | hk | hk | hk
    · exact .inl (.inl hk)
    · exact .inl (.inr (.inl hk))
    · rcases hn.1 k hk with h | h
      · exact .inl (.inr (.inr (.inl h)))
      · exact .inr (Nat.le_trans hn.2 h)
    · obtain ⟨a, ha, rfl⟩ := hk
      injection ha with ha
      subst ha
      rcases hb with h | h
      · exact .inl (.inr (.inr (.inr h)))
      · exact .inr (Nat.le_trans ho.size h)
set_option maxHeartbeats 8000000 in
set_option maxRecDepth 100000 in
theorem sput_c (s : SG) (g q : Nat) (b : BN) (R : List RX) (A : Option Addr) (c : Nat) (size : Int) (W : World) (h : SgIs W g q s) (hg : g ≤ W.heap.size) (hn : ∀ x ∈ s.L, PxN x) (hl : s.L.length ≤ 600000) (hx : s.x.L.length ≤ 600000) (hR : RowR W g (.slice A R.length c) R) (hin : RsIn W A R) (hRl : R.length ≤ 1000000) :
    Calls Tryz.prog 48 #[sp q, .agg (bnC b (.slice A R.length c)), .int .i64 size] W (GotPut W g q s ⟨b, R, A, c, s.size, size⟩) := by
  obtain ⟨base, span, prod, epoch, seq⟩ := b
  have hA0 : Below W.heap.size W (W.alloc (.cells #[.int .i64 base, .int .i64 span, .int .i64 prod, .int .i64 epoch, .int .i64 seq, .slice A R.length c] 44)) := (Below.refl _ _).alloc (Nat.le_refl _) _
  have hK0 : PtK W g q s (W.alloc (.cells #[.int .i64 base, .int .i64 span, .int .i64 prod, .int .i64 epoch, .int .i64 seq, .slice A R.length c] 44)) := ⟨h.later hA0, hA0, by rw [World.size_alloc]; omega⟩
  have hB := Box.new W 44 #[.int .i64 base, .int .i64 span, .int .i64 prod, .int .i64 epoch, .int .i64 seq, .slice A R.length c]
  have hC0 : C6s (W.alloc (.cells #[.int .i64 base, .int .i64 span, .int .i64 prod, .int .i64 epoch, .int .i64 seq, .slice A R.length c] 44)) W.heap.size base span prod epoch seq (.slice A R.length c) := ⟨hB.cell 0, hB.cell 1, hB.cell 2, hB.cell 3, hB.cell 4, hB.cell 5⟩
  have hs := And.intro hC0 hK0
  have hstep := fun (w w' : World) (h : C6s w W.heap.size base span prod epoch seq (.slice A R.length c) ∧ PtK W g q s w) (hb : Below w.heap.size w w') => (And.intro (h.1.later h.2.lt hb) (h.2.later hb) : C6s w' W.heap.size base span prod epoch seq (.slice A R.length c) ∧ PtK W g q s w')
  have cz := fun w (hk : PtK W g q s w) => size_c s g q w hk.is hn (by omega)
  have HH := Lib.hid h
  have HR := Lib.hid (And.intro hR hin)
  unfold bnC sp at *
  clear hA0 hK0 hB hC0 h hR hin
  generalize s.size = sz at *
  go_enter Tryz.func48, Tryz.ntmps48
  obtain ⟨W1, hW1⟩ : ∃ w, W.alloc (.cells #[.int .i64 base, .int .i64 span, .int .i64 prod, .int .i64 epoch, .int .i64 seq, .slice A R.length c] 44) = w := ⟨_, rfl⟩
  go_upto_region 1 with fail
  rw [hW1] at hs
  clear hW1
  have hk := hs.2
  have HK := Lib.hid hk
  have czk := fun w hb => cz w (hk.later hb)
  have HX6 := Lib.hid (fun (w : World) (hb : Below W1.heap.size W1 w) => (hstep _ w hs hb))
  go_cut [6] from 7 to 11 (fun v w => ∃ p6, v = .pointer (some ⟨p6, 0, none⟩) ∧ Box w p6 91 #[.int .i64 base, .int .i64 span, .int .i64 prod, .int .i64 epoch, .int .i64 seq, .slice A R.length c, .int .i64 sz, .int .i64 size] ∧ PtK W g q s w ∧ W.heap.size ≤ p6)
  case first =>
    refine wp_region_held_drew (S := (fun w => C6s w W.heap.size base span prod epoch seq (.slice A R.length c))) (by kernel_rfl) (hs.1.later hs.2.lt (Below.refl _ _).drew) (fun hHeld => ?_)
    refine takeW (i := 0) (v := ?v1) rfl (by kernel_rfl) (by kernel_rfl) (by kernel_rfl) (fun _ _ _ h => h) (by kernel_rfl) hHeld ?hy1 ?rest1
    case hy1 => (intro w hSw; (try (obtain ⟨x0, x1, x2, x3, x4, x5⟩ := (show C6s w W.heap.size base span prod epoch seq (.slice A R.length c) from hSw))); go_simp; (try with_reducible rfl))
    try simp only [Act.put, List.setIfInBounds_toArray, List.set_cons_zero, List.set_cons_succ]
    refine takeW (i := 1) (v := ?v2) rfl (by kernel_rfl) (by kernel_rfl) (by kernel_rfl) (fun _ _ _ h => h) (by kernel_rfl) hHeld ?hy2 ?rest2
    case hy2 => (intro w hSw; (try (obtain ⟨x0, x1, x2, x3, x4, x5⟩ := (show C6s w W.heap.size base span prod epoch seq (.slice A R.length c) from hSw))); go_simp; (try with_reducible rfl))
    try simp only [Act.put, List.setIfInBounds_toArray, List.set_cons_zero, List.set_cons_succ]
    refine takeW (i := 3) (v := ?v3) rfl (by kernel_rfl) (by kernel_rfl) (by kernel_rfl) (fun _ _ _ h => h) (by kernel_rfl) hHeld ?hy3 ?rest3
    case hy3 => (intro w hSw; (try (obtain ⟨x0, x1, x2, x3, x4, x5⟩ := (show C6s w W.heap.size base span prod epoch seq (.slice A R.length c) from hSw))); go_simp; (try with_reducible rfl))
    try simp only [Act.put, List.setIfInBounds_toArray, List.set_cons_zero, List.set_cons_succ]
    refine wpAnyH_ready (rs := [2, 5]) (by kernel_rfl) (by simp) ?_
    refine consL rfl (by kernel_rfl) (fun K hK => ?_) (consL rfl (by kernel_rfl) (fun K hK => ?_) AllReadyH.nil)
    · go_simp
      (with_reducible refine (czk _ ((Below.refl _ _).drew)).mono ?_)
      rintro e w2 ⟨rfl, hb2⟩
      have hk2 := (hs.2.later (Below.refl _ _).drew).later hb2
      have hc2 := (hs.1.later hs.2.lt (Below.refl _ _).drew).later hs.2.lt hb2
      refine hK.out _ _ hc2 (fun hHeld => ?_)
      clear hK K
      try simp only [Act.put, List.setIfInBounds_toArray, List.set_cons_zero, List.set_cons_succ]
      refine takeW (i := 4) (v := ?v4) rfl (by kernel_rfl) (by kernel_rfl) (by kernel_rfl) (fun _ _ _ h => h) (by kernel_rfl) hHeld ?hy4 ?rest4
      case hy4 => (intro w hSw; (try (obtain ⟨x0, x1, x2, x3, x4, x5⟩ := (show C6s w W.heap.size base span prod epoch seq (.slice A R.length c) from hSw))); go_simp; (try with_reducible rfl))
      try simp only [Act.put, List.setIfInBounds_toArray, List.set_cons_zero, List.set_cons_succ]
      refine wpAnyH_ready (rs := [5]) (by kernel_rfl) (by simp) ?_
      refine consL rfl (by kernel_rfl) (fun K hK => ?_) AllReadyH.nil
      go_simp
      refine hK.out _ _ (hc2.later hk2.lt ((Below.refl _ _).alloc (Nat.le_refl _) (.cells zPl 91))) (fun hHeld => ?_)
      clear hK K
      try simp only [Act.put, List.setIfInBounds_toArray, List.set_cons_zero, List.set_cons_succ]
      refine wpAnyH_ready (rs := [6]) (by kernel_rfl) (by simp) ?_
      refine consL rfl (by kernel_rfl) (fun K hK => ?_) AllReadyH.nil
      go_simp
      refine hK.out _ _ (hc2.later hk2.lt ((Below.refl _ _).alloc (Nat.le_refl _) (.cells #[.int .i64 base, .int .i64 span, .int .i64 prod, .int .i64 epoch, .int .i64 seq, .slice A R.length c, .int .i64 sz, .int .i64 size] 91))) (fun hHeld => ?_)
      clear hK K
      try simp only [Act.put, List.setIfInBounds_toArray, List.set_cons_zero, List.set_cons_succ]
      refine wpAnyH_done (by kernel_rfl) ?_ _
      have HP := Lib.hid (hk2.later ((Below.refl _ _).alloc (Nat.le_refl _) (.cells #[.int .i64 base, .int .i64 span, .int .i64 prod, .int .i64 epoch, .int .i64 seq, .slice A R.length c, .int .i64 sz, .int .i64 size] 91)))
      have HL := Lib.hid hk2.bel.size
      clear hHeld hc2 hk2 hb2 czk
      go_wp2_with fail
      go_meet
      exact ⟨w2.heap.size, rfl, Box.new w2 _ _, HP.out, HL.out⟩
    · go_simp
      refine hK.out _ _ (hs.1.later hs.2.lt (((Below.refl _ _).alloc (Nat.le_refl _) (.cells zPl 91)).drew)) (fun hHeld => ?_)
      clear hK K
      try simp only [Act.put, List.setIfInBounds_toArray, List.set_cons_zero, List.set_cons_succ]
      refine wpAnyH_ready (rs := [2]) (by kernel_rfl) (by simp) ?_
      refine consL rfl (by kernel_rfl) (fun K hK => ?_) AllReadyH.nil
      go_simp
      (with_reducible refine (czk _ (((Below.refl _ _).alloc (Nat.le_refl _) (.cells zPl 91)).drew)).mono ?_)
      rintro e w2 ⟨rfl, hb2⟩
      have hbz : Below W1.heap.size W1 (W1.alloc (.cells zPl 91)).drew := ((Below.refl _ _).alloc (Nat.le_refl _) _).drew
      have hk2 := (hs.2.later hbz).later hb2
      have hc2 := (hs.1.later hs.2.lt hbz).later (Nat.lt_of_lt_of_le hs.2.lt hbz.size) hb2
      obtain ⟨⟨e0, e1, e2, e3, e4, e5, e6, e7⟩, ⟨f0, f1, f2, f3, f4, f5, f6, f7⟩, hlt, hzb⟩ := zfacts hb2
      refine hK.out _ _ hc2 (fun hHeld => ?_)
      clear hK K
      try simp only [Act.put, List.setIfInBounds_toArray, List.set_cons_zero, List.set_cons_succ]
      refine takeW (i := 4) (v := ?v5) rfl (by kernel_rfl) (by kernel_rfl) (by kernel_rfl) (fun _ _ _ h => h) (by kernel_rfl) hHeld ?hy5 ?rest5
      case hy5 => (intro w hSw; (try (obtain ⟨x0, x1, x2, x3, x4, x5⟩ := (show C6s w W.heap.size base span prod epoch seq (.slice A R.length c) from hSw))); go_simp; (try with_reducible rfl))
      try simp only [Act.put, List.setIfInBounds_toArray, List.set_cons_zero, List.set_cons_succ]
      refine wpAnyH_ready (rs := [6]) (by kernel_rfl) (by simp) ?_
      refine consL rfl (by kernel_rfl) (fun K hK => ?_) AllReadyH.nil
      go_simp
      have h8 := hs.2.set8 hk2 hzb (.int .i64 base) (.int .i64 span) (.int .i64 prod) (.int .i64 epoch) (.int .i64 seq) (.slice A R.length c) (.int .i64 sz) (.int .i64 size)
      have hc8 : C6s (set8 w2 W1.heap.size (.int .i64 base) (.int .i64 span) (.int .i64 prod) (.int .i64 epoch) (.int .i64 seq) (.slice A R.length c) (.int .i64 sz) (.int .i64 size)) W.heap.size base span prod epoch seq (.slice A R.length c) := hc2.off (set8_off _ _ _ _ _ _ _ _ _ _) hk2.lt (by have := hs.2.lt; omega)
      refine hK.out _ _ hc8 (fun hHeld => ?_)
      clear hK K
      try simp only [Act.put, List.setIfInBounds_toArray, List.set_cons_zero, List.set_cons_succ]
      refine wpAnyH_done (by kernel_rfl) ?_ _
      have HP := Lib.hid h8
      have HL := Lib.hid hs.2.bel.size
      have HBX := Lib.hid (set8_box hzb (.int .i64 base) (.int .i64 span) (.int .i64 prod) (.int .i64 epoch) (.int .i64 seq) (.slice A R.length c) (.int .i64 sz) (.int .i64 size))
      clear hHeld hc2 hc8 h8 hk2 hb2 czk hzb hlt e0 e1 e2 e3 e4 e5 e6 e7 f0 f1 f2 f3 f4 f5 f6 f7
      go_wp2_with fail
      go_meet
      exact ⟨W1.heap.size, rfl, HBX.out, HP.out, HL.out⟩
  case rest =>
    obtain ⟨p6, rfl, hbx, hk, hpl⟩ := hcut
    have hs2 : S2 q s.ip p6 (.int .i64 base) (.int .i64 span) (.int .i64 prod) (.int .i64 epoch) (.int .i64 seq) (.slice A R.length c) (.int .i64 sz) (.int .i64 size) wc := ⟨hk.is.cells.2.2.2.1, hk.is.box.lt, hbx.lt, hbx.cell 0, hbx.cell 1, hbx.cell 2, hbx.cell 3, hbx.cell 4, hbx.cell 5, hbx.cell 6, hbx.cell 7⟩
    have HK2 := Lib.hid hk
    have HBX := Lib.hid hbx
    have cl := fun w hb => latest_c ⟨⟨base, span, prod, epoch, seq⟩, R, A, c, sz, size⟩ w (HR.out.2.below (hk.bel.trans hb)) hRl
    unfold plcV at cl
    dsimp only at cl
    have ca := fun w (hw : Below wc.heap.size wc w) => Ix.add_c s.x s.iA s.iC g s.ip base sz (lateG (R.map (·.1))) w ((hk.is.later hw).ix) (by have := hk.bel.size; have := hw.size; omega) (by omega)
    clear czk cz hs HX6 hstep hbx hk
    go_upto_region 2 with fail
    refine wp_region_held_drew (S := (S2 q s.ip p6 (.int .i64 base) (.int .i64 span) (.int .i64 prod) (.int .i64 epoch) (.int .i64 seq) (.slice A R.length c) (.int .i64 sz) (.int .i64 size))) (by kernel_rfl) (hs2.later (Below.refl _ _).drew) (fun hHeld => ?_)
    refine takeW (i := 0) (v := ?v6) rfl (by kernel_rfl) (by kernel_rfl) (by kernel_rfl) (fun _ _ _ h => h) (by kernel_rfl) hHeld ?hy6 ?rest6
    case hy6 => (intro w hSw; obtain ⟨y3, x0, x1, x2, x3, x4, x5, x6, x7⟩ := S2.out hSw; go_simp; (try with_reducible rfl))
    try simp only [Act.put, List.setIfInBounds_toArray, List.set_cons_zero, List.set_cons_succ]
    refine takeW (i := 1) (v := ?v7) rfl (by kernel_rfl) (by kernel_rfl) (by kernel_rfl) (fun _ _ _ h => h) (by kernel_rfl) hHeld ?hy7 ?rest7
    case hy7 => (intro w hSw; obtain ⟨y3, x0, x1, x2, x3, x4, x5, x6, x7⟩ := S2.out hSw; go_simp; (try with_reducible rfl))
    try simp only [Act.put, List.setIfInBounds_toArray, List.set_cons_zero, List.set_cons_succ]
    refine takeW (i := 2) (v := ?v8) rfl (by kernel_rfl) (by kernel_rfl) (by kernel_rfl) (fun _ _ _ h => h) (by kernel_rfl) hHeld ?hy8 ?rest8
    case hy8 => (intro w hSw; obtain ⟨y3, x0, x1, x2, x3, x4, x5, x6, x7⟩ := S2.out hSw; go_simp; (try with_reducible rfl))
    try simp only [Act.put, List.setIfInBounds_toArray, List.set_cons_zero, List.set_cons_succ]
    refine takeW (i := 3) (v := ?v9) rfl (by kernel_rfl) (by kernel_rfl) (by kernel_rfl) (fun _ _ _ h => h) (by kernel_rfl) hHeld ?hy9 ?rest9
    case hy9 => (intro w hSw; obtain ⟨y3, x0, x1, x2, x3, x4, x5, x6, x7⟩ := S2.out hSw; go_simp; (try with_reducible rfl))
    try simp only [Act.put, List.setIfInBounds_toArray, List.set_cons_zero, List.set_cons_succ]
    refine takeW (i := 4) (v := ?v10) rfl (by kernel_rfl) (by kernel_rfl) (by kernel_rfl) (fun _ _ _ h => h) (by kernel_rfl) hHeld ?hy10 ?rest10
    case hy10 => (intro w hSw; obtain ⟨y3, x0, x1, x2, x3, x4, x5, x6, x7⟩ := S2.out hSw; go_simp; (try with_reducible rfl))
    try simp only [Act.put, List.setIfInBounds_toArray, List.set_cons_zero, List.set_cons_succ]
    refine takeW (i := 5) (v := ?v11) rfl (by kernel_rfl) (by kernel_rfl) (by kernel_rfl) (fun _ _ _ h => h) (by kernel_rfl) hHeld ?hy11 ?rest11
    case hy11 => (intro w hSw; obtain ⟨y3, x0, x1, x2, x3, x4, x5, x6, x7⟩ := S2.out hSw; go_simp; (try with_reducible rfl))
    try simp only [Act.put, List.setIfInBounds_toArray, List.set_cons_zero, List.set_cons_succ]
    refine takeW (i := 6) (v := ?v12) rfl (by kernel_rfl) (by kernel_rfl) (by kernel_rfl) (fun _ _ _ h => h) (by kernel_rfl) hHeld ?hy12 ?rest12
    case hy12 => (intro w hSw; obtain ⟨y3, x0, x1, x2, x3, x4, x5, x6, x7⟩ := S2.out hSw; go_simp; (try with_reducible rfl))
    try simp only [Act.put, List.setIfInBounds_toArray, List.set_cons_zero, List.set_cons_succ]
    refine takeW (i := 7) (v := ?v13) rfl (by kernel_rfl) (by kernel_rfl) (by kernel_rfl) (fun _ _ _ h => h) (by kernel_rfl) hHeld ?hy13 ?rest13
    case hy13 => (intro w hSw; obtain ⟨y3, x0, x1, x2, x3, x4, x5, x6, x7⟩ := S2.out hSw; go_simp; (try with_reducible rfl))
    try simp only [Act.put, List.setIfInBounds_toArray, List.set_cons_zero, List.set_cons_succ]
    refine takeW (i := 8) (v := ?v14) rfl (by kernel_rfl) (by kernel_rfl) (by kernel_rfl) (fun _ _ _ h => h) (by kernel_rfl) hHeld ?hy14 ?rest14
    case hy14 => (intro w hSw; obtain ⟨y3, x0, x1, x2, x3, x4, x5, x6, x7⟩ := S2.out hSw; go_simp; (try with_reducible rfl))
    try simp only [Act.put, List.setIfInBounds_toArray, List.set_cons_zero, List.set_cons_succ]
    refine takeW (i := 9) (v := ?v15) rfl (by kernel_rfl) (by kernel_rfl) (by kernel_rfl) (fun _ _ _ h => h) (by kernel_rfl) hHeld ?hy15 ?rest15
    case hy15 => (intro w hSw; obtain ⟨y3, x0, x1, x2, x3, x4, x5, x6, x7⟩ := S2.out hSw; go_simp; (try with_reducible rfl))
    try simp only [Act.put, List.setIfInBounds_toArray, List.set_cons_zero, List.set_cons_succ]
    refine wpAnyH_ready (rs := [10]) (by kernel_rfl) (by simp) ?_
    refine consL rfl (by kernel_rfl) (fun K hK => ?_) AllReadyH.nil
    go_simp
    (with_reducible refine (cl _ ((Below.refl _ _).drew)).mono ?_)
    rintro e w3 ⟨rfl, hb3⟩
    have hbd3 := (Below.refl wc.heap.size wc).drew.trans hb3
    refine hK.out _ _ ((hs2.later (Below.refl _ _).drew).later hb3) (fun hHeld => ?_)
    clear hK K
    try simp only [Act.put, List.setIfInBounds_toArray, List.set_cons_zero, List.set_cons_succ]
    refine wpAnyH_ready (rs := [11]) (by kernel_rfl) (by simp) ?_
    refine consL rfl (by kernel_rfl) (fun K hK => ?_) AllReadyH.nil
    go_simp
    (with_reducible refine (ca _ hbd3).mono ?_)
    rintro e w4 ⟨iA, iC, rfl, hix, ho4, hn4⟩
    have hI4 := (HK2.out.is.later hbd3).added hix ho4
    have hx4 : Box w4 p6 91 #[.int .i64 base, .int .i64 span, .int .i64 prod, .int .i64 epoch, .int .i64 seq, .slice A R.length c, .int .i64 sz, .int .i64 size] := (HBX.out.later hbd3).off ho4 (fun hk => (placed_not (HK2.out.is.later hbd3) hk (HBX.out.later hbd3)))
    have hs4 : S2 q s.ip p6 (.int .i64 base) (.int .i64 span) (.int .i64 prod) (.int .i64 epoch) (.int .i64 seq) (.slice A R.length c) (.int .i64 sz) (.int .i64 size) w4 := ⟨hI4.cells.2.2.2.1, hI4.box.lt, hx4.lt, hx4.cell 0, hx4.cell 1, hx4.cell 2, hx4.cell 3, hx4.cell 4, hx4.cell 5, hx4.cell 6, hx4.cell 7⟩
    have hO4 : Off (SgF s q) W w4 := ((Off.of_below (SgF s q) (HK2.out.bel.trans (hbd3.mono HK2.out.bel.size))).trans (ho4.mono (fun k _ hk => sgf_ix hk)) (fun _ _ h => h))
    have HN4 := Lib.hid (And.intro hn4 (Nat.le_trans HK2.out.bel.size hbd3.size))
    refine hK.out _ _ hs4 (fun hHeld => ?_)
    clear hK K
    try simp only [Act.put, List.setIfInBounds_toArray, List.set_cons_zero, List.set_cons_succ]
    refine wpAnyH_done (by kernel_rfl) ?_ _
    have HI4 := Lib.hid hI4
    have HX4 := Lib.hid hx4
    have HO4 := Lib.hid hO4
    clear hHeld hs4 hs2 hI4 hx4 hO4 hix ho4 hn4 hb3 hbd3 ca cl
    go_upto_region 3 with fail
    obtain ⟨b5, d5, w5, r5, hbx5, hI5, hO5, hb5⟩ := (HI4.out.later (Below.refl _ _).drew).longer (by show g ≤ w4.heap.size; have := HO4.out.size; omega) ⟨⟨base, span, prod, epoch, seq⟩, R, A, c, sz, size⟩ ((HR.out.1.off4 HO4.out HH.out).later (Below.refl _ _).drew) (by show s.L.length ≤ 1000000; omega)
    have hq4 : w5.cell? ⟨q, 4, none⟩ = some (.slice s.B s.L.length s.d) := hbx5.cell 4
    have hf4 := hbx5.frozen 4
    have hq5 := hbx5.lt
    have y4 : w4.cell? ⟨q, 4, none⟩ = some (.slice s.B s.L.length s.d) := HI4.out.cells.2.2.2.2
    have hql := HI4.out.box.lt
    have hpl2 := HX4.out.lt
    have x0 := HX4.out.cell 0
    have x1 := HX4.out.cell 1
    have x2 := HX4.out.cell 2
    have x3 := HX4.out.cell 3
    have x4 := HX4.out.cell 4
    have x5 := HX4.out.cell 5
    have x6 := HX4.out.cell 6
    have x7 := HX4.out.cell 7
    simp only [List.getElem?_toArray, List.getElem?_cons_zero, List.getElem?_cons_succ] at x0 x1 x2 x3 x4 x5 x6 x7
    unfold plcV at r5
    dsimp only at r5
    have HI5 := Lib.hid hI5
    have HO5 := Lib.hid hO5
    have HB5 := Lib.hid hb5
    clear hbx5 hI5 hO5 hb5
    go_region_law (refine step_append_run rfl (.tmp 28) (.tmp 30) 76 rfl (.slice s.B s.L.length s.d) (.slice (some ⟨w4.heap.size, 0, none⟩) 1 1) (.slice (some ⟨b5, 0, none⟩) (s.L.length + 1) d5) (by simp [Act.eval]) (by simp [Act.eval]) r5 ?_)
    all_goals
      go_end0
      exact put_done HO4.out HN4.out HI5.out HO5.out HB5.out
end Go.Proofs.YtjnphajkoopkgaaGreatDoor
