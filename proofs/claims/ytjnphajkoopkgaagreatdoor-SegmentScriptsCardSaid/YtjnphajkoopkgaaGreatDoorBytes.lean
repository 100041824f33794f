/- Plain laws on rows of bytes: what a new row of bytes holds, a byte read and written, the text of a row. No condition of its own. -/
import Derived.Below
import Derived.Laws.IdiomStrings
import Derived.Laws.OwnMore
import Derived.Laws.AppendOwn
import Derived.Laws.MakeOwn
import Derived.Deep.Draws
import Derived.ArgAppend
import Derived.OwnWalk
import Derived.Laws.Slices
namespace Go.Proofs.YtjnphajkoopkgaaGreatDoor
open Go.RowKit
/-- Block g is a row of cap cells, of which the first hold the bytes l; none of its cells is shut. -/
def BRow (w : World) (e : TypeId) (g cap : Nat) (l : List UInt8) : Prop :=
  ∃ (C : Array Value) (lo hi : Nat), w.heap[g]? = some (.cells C e (lo, hi)) ∧ (hi ≤ lo ∨ C.size ≤ lo) ∧ C.size = cap ∧ l.length ≤ cap ∧ ∀ (j : Nat) (c : UInt8), l[j]? = some c → C[j]? = some (.int .u8 (c.toNat : Int))
section
variable {w w' : World} {e : TypeId} {g cap : Nat} {l : List UInt8} {P : Program}
theorem BRow.lt (h : BRow w e g cap l) : g < w.heap.size := by
  obtain ⟨C, lo, hi, h, _⟩ := h
  rcases Nat.lt_or_ge g w.heap.size with hlt | hge
  · exact hlt
  · rw [Array.getElem?_eq_none hge] at h; cases h
theorem BRow.len (h : BRow w e g cap l) : l.length ≤ cap := by
  obtain ⟨C, lo, hi, _, _, _, h, _⟩ := h
  exact h
theorem BRow.cell (h : BRow w e g cap l) {j : Nat} {c : UInt8} (hj : l[j]? = some c) : w.cell? ⟨g, j, none⟩ = some (.int .u8 (c.toNat : Int)) := by
  obtain ⟨C, lo, hi, h, _, _, _, hc⟩ := h
  simp [World.cell?, h, hc j c hj]
theorem BRow.frozen (h : BRow w e g cap l) {j : Nat} (hj : j < cap) : w.frozen? ⟨g, j, none⟩ = false := by
  obtain ⟨C, lo, hi, h, hf, hs, _, _⟩ := h
  simp only [World.frozen?, h]
  rcases hf with hf | hf
  · simp; omega
  · simp; omega
theorem BRow.there (h : BRow w e g cap l) {j : Nat} (hj : j < cap) : ∃ v, w.cell? ⟨g, j, none⟩ = some v := by
  obtain ⟨C, lo, hi, h, _, hs, _, _⟩ := h
  exact ⟨C[j]'(by omega), by simp [World.cell?, h, hs, hj]⟩
theorem BRow.same (h : BRow w e g cap l) (hb : w'.heap[g]? = w.heap[g]?) : BRow w' e g cap l := by
  obtain ⟨C, lo, hi, h, r⟩ := h
  exact ⟨C, lo, hi, hb.trans h, r⟩
theorem BRow.below {B : Nat} (h : BRow w e g cap l) (hb : Below B w w') (hg : g < B) : BRow w' e g cap l := h.same (hb.block g hg)
theorem BRow.later (h : BRow w e g cap l) (hb : Below w.heap.size w w') : BRow w' e g cap l := h.below hb h.lt
theorem BRow.drew (h : BRow w e g cap l) : BRow w.drew e g cap l := h
theorem BRow.drewN (h : BRow w e g cap l) (n : Nat) : BRow (w.drewN n) e g cap l := h
theorem BRow.alloc (h : BRow w e g cap l) (o : Obj) : BRow (w.alloc o) e g cap l := h.same (Below.heap_alloc w o g h.lt)
theorem BRow.far (h : BRow w e g cap l) {p : Addr} (hp : g ≠ p.block) (u : Value) : BRow (w.setCell p u) e g cap l := h.same (Below.heap_setCell w p u g hp)
theorem BRow.set (h : BRow w e g cap l) {j b : Nat} (hj : j < l.length) (hb : b < 256) : BRow (w.setCell ⟨g, j, none⟩ (.int .u8 (b : Int))) e g cap (l.set j (UInt8.ofNat b)) := by
  obtain ⟨C, lo, hi, h, hf, hs, hl, hc⟩ := h
  refine ⟨C.setIfInBounds j (.int .u8 (b : Int)), lo, hi, ?_, by simpa using hf, by simpa using hs, by simpa using hl, ?_⟩
  · simp [World.setCell, Array.getElem?_modify, h]
  · intro i c hi
    by_cases he : j = i
    · subst he
      rw [List.getElem?_set_self hj] at hi
      have : c = UInt8.ofNat b := by simpa using hi.symm
      subst this
      rw [Array.getElem?_setIfInBounds_self_of_lt (by omega), UInt8.toNat_ofNat_of_lt' (by simpa using hb)]
    · rw [List.getElem?_set_ne he] at hi
      rw [Array.getElem?_setIfInBounds_ne he]
      exact hc i c hi
theorem BRow.grow (h : BRow w e g cap l) {b : Nat} (hj : l.length < cap) (hb : b < 256) : BRow (w.setCell ⟨g, l.length, none⟩ (.int .u8 (b : Int))) e g cap (l ++ [UInt8.ofNat b]) := by
  obtain ⟨C, lo, hi, h, hf, hs, hl, hc⟩ := h
  refine ⟨C.setIfInBounds l.length (.int .u8 (b : Int)), lo, hi, ?_, by simpa using hf, by simpa using hs, by simp; omega, ?_⟩
  · simp [World.setCell, Array.getElem?_modify, h]
  · intro i c hi
    by_cases he : l.length = i
    · subst he
      have : c = UInt8.ofNat b := by simpa using hi.symm
      subst this
      rw [Array.getElem?_setIfInBounds_self_of_lt (by omega), UInt8.toNat_ofNat_of_lt' (by simpa using hb)]
    · have hlt : i < l.length := by
        have h2 : i < (l ++ [UInt8.ofNat b]).length := (List.getElem?_eq_some_iff.1 hi).1
        simp at h2
        omega
      rw [List.getElem?_append_left hlt] at hi
      rw [Array.getElem?_setIfInBounds_ne he]
      exact hc i c hi
theorem BRow.take (h : BRow w e g cap l) (n : Nat) : BRow w e g cap (l.take n) := by
  obtain ⟨C, lo, hi, h, hf, hs, hl, hc⟩ := h
  refine ⟨C, lo, hi, h, hf, hs, by simp; omega, fun j c hj => hc j c ?_⟩
  rw [List.getElem?_take] at hj
  split at hj
  · exact hj
  · cases hj
/-- The text of a row. -/
theorem BRow.text (h : BRow w e g cap l) {et : TypeId} (src dst c n : Nat) (hs : P.underlying src = some (.slice et)) (he : P.underlying et = some (.int .u8)) (hd : P.underlying dst = some .string) (hn : n = l.length) :
    (convert src dst (.slice (some ⟨g, 0, none⟩) n c)).run P w = .ok (.string ⟨l.toArray⟩) w := by
  subst hn
  refine run_convert_bytes_back w src dst et ⟨g, 0, none⟩ c l hs he hd fun j hj => ?_
  have e1 : (⟨g, 0, none⟩ : Addr).add j = ⟨g, j, none⟩ := by unfold Addr.add; split <;> simp_all
  rw [e1]
  exact h.cell (List.getElem?_eq_getElem hj)
/-- A new array of bytes. -/
theorem BRow.fresh (w : World) (e n : Nat) : BRow (w.alloc (.cells (Array.replicate n (.int .u8 0)) e)) e w.heap.size n [] :=
  ⟨_, 0, 0, heap_alloc_new w _, .inl (Nat.le_refl _), by simp, by simp, fun j c hj => by simp at hj⟩
/-- The head of an array, as a slice. -/
theorem slice_head (w : World) (t e g m n : Nat) (ht : P.underlying t = some (.array n e)) (hi : (P.info? e).isSome = true) (hm : m ≤ n) :
    (Instr.sliceAt t (.pointer (some ⟨g, 0, none⟩)) none (some (.int .i64 (m : Int))) none).run P w = .ok (.slice (some ⟨g, 0, none⟩) m n) w := by
  have h1 : P.arrayLen t = n := by simp [Program.arrayLen, ht]
  have h2 : P.elem t = e := by simp [Program.elem, ht]
  have h3 : P.underlying t = some (.array (P.arrayLen t) (P.elem t)) := by rw [h1, h2]; exact ht
  rw [run_sliceAt_array_h w t ⟨g, 0, none⟩ h3 .i64 (m : Int) (by omega) (by rw [h1]; omega), h1, h2]
  obtain ⟨i, hi⟩ := Option.isSome_iff_exists.1 hi
  simp [sizeOf, typeInfo, hi, slicedAt, Addr.add]
/-- A new row of a text's bytes. -/
theorem bytes_of (w : World) (src dst e : TypeId) (s : ByteArray) (hs : P.underlying src = some .string) (hd : P.underlying dst = some (.slice e)) (he : P.underlying e = some (.int .u8)) :
    ∃ cap w1, (convert src dst (.string s)).run P w = .ok (.slice (some ⟨w.heap.size, 0, none⟩) s.size cap) w1 ∧ BRow w1 e w.heap.size cap s.data.toList ∧ Below w.heap.size w w1 ∧ w1.heap.size = w.heap.size + 1 := by
  refine ⟨_, _, run_bytes_of_string w src dst e s hs hd he, ?_, ((Below.refl _ _).drew).alloc (Nat.le_refl _) _, by simp⟩
  have hge := grownCap_ge w s.size 0 e
  have hsz : s.data.toList.length = s.size := rfl
  have hcs : (bytesRow s (grownCap w s.size 0 e)).size = grownCap w s.size 0 e := by
    have h2 : s.data.size = s.size := rfl
    simp [bytesRow]; omega
  refine ⟨_, _, _, heap_alloc_new _ _, .inr (Nat.le_refl _), hcs, by rw [hsz]; exact hge, fun j c hj => ?_⟩
  have hj' : j < s.data.toList.length := (List.getElem?_eq_some_iff.1 hj).1
  have hj2 : j < s.data.size := by simpa using hj'
  unfold bytesRow
  rw [Array.getElem?_append_left (by simpa using hj2), Array.getElem?_map]
  have : s.data[j]? = some c := by simpa using hj
  rw [this]
  rfl
/-- A slice value that reads the bytes l: nil, or the head of a row from block base on. -/
def BSl (w : World) (e base : Nat) (v : Value) (l : List UInt8) : Prop :=
  (v = .slice none 0 0 ∧ l = []) ∨ ∃ g cap, v = .slice (some ⟨g, 0, none⟩) l.length cap ∧ base ≤ g ∧ BRow w e g cap l
theorem BSl.nil (w : World) (e base : Nat) : BSl w e base (.slice none 0 0) [] := .inl ⟨rfl, rfl⟩
theorem BSl.of_row {base n c : Nat} (h : BRow w e g cap l) (hb : base ≤ g) (hn : n = l.length) (hc : c = cap) : BSl w e base (.slice (some ⟨g, 0, none⟩) n c) l := .inr ⟨g, cap, by rw [hn, hc], hb, h⟩
theorem BSl.alloc {base : Nat} {v : Value} (h : BSl w e base v l) (o : Obj) : BSl (w.alloc o) e base v l := by
  rcases h with h | ⟨g, cap, h1, h2, h3⟩
  · exact .inl h
  · exact .inr ⟨g, cap, h1, h2, h3.alloc o⟩
theorem BSl.drew {base : Nat} {v : Value} (h : BSl w e base v l) : BSl w.drew e base v l := h
theorem BSl.drewN {base : Nat} {v : Value} (h : BSl w e base v l) (n : Nat) : BSl (w.drewN n) e base v l := h
theorem BSl.later {base B : Nat} {v : Value} (h : BSl w e base v l) (hb : Below B w w') (hB : w.heap.size ≤ B) : BSl w' e base v l := by
  rcases h with h | ⟨g, cap, h1, h2, h3⟩
  · exact .inl h
  · exact .inr ⟨g, cap, h1, h2, h3.below hb (Nat.lt_of_lt_of_le h3.lt hB)⟩
theorem BSl.lt {base : Nat} {v : Value} (h : BSl w e base v l) : ∀ k, v.ownBlock = some k → base ≤ k ∧ k < w.heap.size := by
  intro k hk
  rcases h with ⟨rfl, _⟩ | ⟨g, cap, rfl, h2, h3⟩
  · cases hk
  · have : g = k := by simpa [Value.ownBlock] using hk
    subst this
    exact ⟨h2, h3.lt⟩
/-- Bytes laid down one behind the other. -/
theorem BRow.setCells : ∀ (ys : List UInt8) (w : World) (l : List UInt8), BRow w e g cap l → l.length + ys.length ≤ cap →
    BRow (w.setCells g l.length (ys.map fun y => Value.int .u8 (y.toNat : Int))) e g cap (l ++ ys) ∧ w.grownBy (w.setCells g l.length (ys.map fun y => Value.int .u8 (y.toNat : Int))) (some g)
  | [], w, l, h, _ => ⟨by simpa [World.setCells] using h, ⟨rfl, rfl, rfl, Nat.le_refl _, fun _ _ _ => rfl⟩⟩
  | y :: ys, w, l, h, hl => by
    have hl' : l.length + (ys.length + 1) ≤ cap := by simpa using hl
    have hg := h.grow (b := y.toNat) (by omega) y.toNat_lt
    have hy : UInt8.ofNat y.toNat = y := by simp
    rw [hy] at hg
    have ih := BRow.setCells ys _ (l ++ [y]) hg (by simp; omega)
    have hlen : (l ++ [y]).length = l.length + 1 := by simp
    rw [hlen, List.append_assoc] at ih
    refine ⟨ih.1, ?_⟩
    have h1 := ih.2
    refine ⟨h1.os, h1.tape, h1.output, Nat.le_trans (by simp [World.setCell]) h1.size, fun k hk hne => ?_⟩
    have hk2 : k ≠ g := fun e => hne (by rw [e])
    exact (h1.block k (by simpa [World.setCell] using hk) hne).trans (Below.heap_setCell w ⟨g, l.length, none⟩ _ k hk2)
theorem run_append_bytes (w : World) (base : Nat) (t ty et : TypeId) (i : TypeInfo) (ht : P.underlying t = some (.slice et)) (hi : P.info? et = some i) (hz : i.zero = some (.int .u8 0))
    (hsize : i.size = 1) (hby : i.bytes = 1) (v : Value) (l : List UInt8) (hv : BSl w et base v l)
    (a : Addr) (m c : Nat) (ys : List UInt8) (hm : m = ys.length) (hnews : ∀ j y, ys[j]? = some y → w.cell? (a.add j) = some (.int .u8 (y.toNat : Int))) (hbytes : l.length + m ≤ 140737488355328) (hbase : base ≤ w.heap.size) :
    ∃ v' w', (Builtin.append_ #[t, t] ty #[v, .slice (some a) m c]).run P w = .ok v' w' ∧ BSl w' et base v' (l ++ ys) ∧ w.grownBy w' v.ownBlock ∧ (v'.ownBlock = v.ownBlock ∨ v'.ownBlock = some w.heap.size) := by
  subst hm
  have hl : (ys.map fun y => Value.int .u8 (y.toNat : Int)).length = ys.length * i.size := by rw [hsize]; simp
  have hn : ∀ j u, (ys.map fun y => Value.int .u8 (y.toNat : Int))[j]? = some u → w.cell? (a.add j) = some u := by
    intro j u hu
    rw [List.getElem?_map] at hu
    cases hy : ys[j]? with
    | none => rw [hy] at hu; cases hu
    | some y => rw [hy] at hu; cases hu; exact hnews j y hy
  have fresh : ∀ v' w', w'.ownsRow w.heap.size et 1 v' (l.length + ys.length) ((l ++ ys).map fun y => Value.int .u8 (y.toNat : Int)) → BSl w' et base v' (l ++ ys) ∧ (0 < l.length + ys.length → ∃ g, v'.ownBlock = some g ∧ w.heap.size ≤ g) := by
    intro v' w' h
    rcases h.2 with ⟨rfl, h0⟩ | ⟨g, cap, cur, rfl, hb, hh, hnc, hcm, hcs, htk⟩
    · have : l ++ ys = [] := List.eq_nil_of_length_eq_zero (by simpa using h0)
      exact ⟨.inl ⟨rfl, this⟩, fun hp => by omega⟩
    · refine ⟨.inr ⟨g, cap, by simp, Nat.le_trans hbase hb, cur, 0, 0, hh, .inl (Nat.le_refl _), by simpa using hcs, by simpa using hnc, fun j y hy => ?_⟩, fun _ => ⟨g, rfl, hb⟩⟩
      have h1 : (cur.toList.take ((l.length + ys.length) * 1))[j]? = some (Value.int .u8 (y.toNat : Int)) := by rw [htk, List.getElem?_map, hy]; rfl
      rw [List.getElem?_take] at h1
      split at h1
      · simpa using h1
      · cases h1
  have hmx : l.length + ys.length ≤ maxLen := by unfold maxLen; omega
  rcases hv with ⟨rfl, rfl⟩ | ⟨g, cap, rfl, hb, hr⟩
  · obtain ⟨v', w', h1, h2, h3, _⟩ := run_append_own (P := P) w w.heap.size t ty et i (.int .u8 0) 1 1 ht hi hz hsize hby rfl (by decide) (.slice none 0 0) 0 [] (World.ownsRow_nil _ _ _ _) a ys.length c _ (by simp) hn (by simp [Value.oneCell']) (by simpa using hmx) (by simpa using hbytes) (Nat.le_refl _)
    have h4 := fresh v' w' (by simpa using h2)
    refine ⟨v', w', h1, h4.1, h3, ?_⟩
    rcases h2.2 with ⟨rfl, _⟩ | ⟨g, cap, cur, rfl, hb, hh, _⟩
    · exact .inl rfl
    · have hg : g < w'.heap.size := by
        rcases Nat.lt_or_ge g w'.heap.size with hlt | hge
        · exact hlt
        · rw [Array.getElem?_eq_none hge] at hh; cases hh
      right
      have hsz : w'.heap.size ≤ w.heap.size + 1 := by
        by_cases h0 : ys.length = 0
        · have hy : ys = [] := List.eq_nil_of_length_eq_zero h0
          subst hy
          simp [Builtin.append_, run_underlying ht, sizeOf, typeInfo, hi, Builtin.lenOf, Builtin.firstCells, loadCells, loadCellsFrom] at h1
        · have hr := run_append_nil (P := P) w t ty et i (.int .u8 0) ht hi hz a ys.length c _ hl hn (by omega) (by unfold maxLen at hmx; simp at hmx; omega) (by rw [hby]; simp at hbytes; omega)
          rw [h1] at hr
          injection hr with _ hw
          rw [hw]
          simp
      have : g = w.heap.size := by omega
      simp [Value.ownBlock, this]
  · by_cases hroom : l.length + ys.length ≤ cap
    · have hc := BRow.setCells ys w l hr hroom
      have hcs : ∀ j, j < (ys.map fun y => Value.int .u8 (y.toNat : Int)).length → (w.cell? ⟨g, 0 + l.length * i.size + j, none⟩).isSome = true := by
        intro j hj
        obtain ⟨C, lo, hi', hh, _, hs, _, _⟩ := hr
        rw [hsize]
        simp at hj
        simp [World.cell?, hh]
        omega
      have hfr : ∀ j, j < (ys.map fun y => Value.int .u8 (y.toNat : Int)).length → w.frozen? ⟨g, 0 + l.length * i.size + j, none⟩ = false := by
        intro j hj
        rw [hsize]
        simp at hj
        exact hr.frozen (by omega)
      have h1 := run_append_room_cells (P := P) w t ty et i ht hi g 0 l.length cap a ys.length c _ hl hn (by simp [Value.oneCell']) hroom hcs hfr
      rw [hsize, Nat.mul_one, Nat.zero_add] at h1
      exact ⟨_, _, h1, .inr ⟨g, cap, by simp, hb, hc.1⟩, hc.2, .inl rfl⟩
    · have holds : ∀ j u, (l.map fun y => Value.int .u8 (y.toNat : Int))[j]? = some u → w.cell? ((⟨g, 0, none⟩ : Addr).add j) = some u := by
        intro j u hu
        rw [List.getElem?_map] at hu
        have e1 : (⟨g, 0, none⟩ : Addr).add j = ⟨g, j, none⟩ := by unfold Addr.add; split <;> simp_all
        cases hy : l[j]? with
        | none => rw [hy] at hu; cases hu
        | some y => rw [hy] at hu; cases hu; rw [e1]; exact hr.cell hy
      have hlo : (l.map fun y => Value.int .u8 (y.toNat : Int)).length = l.length * i.size := by rw [hsize]; simp
      have h1 := run_append_grow (P := P) w t ty et i (.int .u8 0) ht hi hz ⟨g, 0, none⟩ l.length cap _ hlo holds a ys.length c _ hl hn (by omega) (by unfold maxLen at hmx; omega) (growslice_fits (by omega) (by rw [hby]; omega))
      have hge := grownCap_ge w (l.length + ys.length) cap et
      refine ⟨_, _, h1, .inr ⟨w.heap.size, grownCap w (l.length + ys.length) cap et, by simp, hbase, _, 0, 0, heap_alloc_new w.drew _, .inl (Nat.le_refl _), ?_, by simpa using hge, fun j y hy => ?_⟩, ⟨rfl, rfl, rfl, by simp, fun k hk _ => heap_alloc_old w.drew _ k hk⟩, .inr rfl⟩
      · simp [size_zeroCells, Value.cells]
        omega
      · have hj := (List.getElem?_eq_some_iff.1 hy).1
        simp at hj
        rw [Array.getElem?_append_left (by simpa using hj)]
        have h5 : ((l ++ ys).map fun y => Value.int .u8 (y.toNat : Int))[j]? = some (Value.int .u8 (y.toNat : Int)) := by rw [List.getElem?_map, hy]; rfl
        simpa using h5
theorem wpList_append_bytes {ops : Array Oper} {rest : List Oper} {o : Oper} {a : Act} {Q : Exit → Act → World → Prop} (w : World) (hgd : o.guard = none) (s x : Operand) (t : TypeId)
    (ho : o.op = .call { callee := .builtin .append, args := #[s, x], argTypes := #[t, t] })
    (base : Nat) (et : TypeId) (i : TypeInfo) (ht : P.underlying t = some (.slice et)) (hi : P.info? et = some i) (hz : i.zero = some (.int .u8 0)) (hsize : i.size = 1) (hby : i.bytes = 1)
    (v : Value) (l : List UInt8) (hs : a.eval s = v) (hv : BSl w et base v l)
    (ad : Addr) (m c : Nat) (ys : List UInt8) (hx : a.eval x = .slice (some ad) m c) (hm : m = ys.length) (hnews : ∀ j y, ys[j]? = some y → w.cell? (ad.add j) = some (.int .u8 (y.toNat : Int)))
    (hbytes : l.length + m ≤ 140737488355328) (hbase : base ≤ w.heap.size)
    (h : ∀ v' w', BSl w' et base v' (l ++ ys) → w.grownBy w' v.ownBlock → (v'.ownBlock = v.ownBlock ∨ v'.ownBlock = some w.heap.size) → wpList P ops Q rest (a.put o.dst v') w') : wpList P ops Q (o :: rest) a w := by
  refine wpList_plain hgd fun K hK => ?_
  obtain ⟨v', w', hr, h2, h3, h4⟩ := run_append_bytes (P := P) w base t o.type et i ht hi hz hsize hby v l hv ad m c ys hm hnews hbytes hbase
  unfold Oper.wp execOp
  simp only [ho, resolve, invoke, builtin, Sem.run_bind, Sem.run_pure, Result.andThen_ok, List.map_toArray, List.map_cons, List.map_nil, hs, hx, hr]
  exact hK _ _ (h v' w' h2 h3 h4)
/-- The text of a slice of bytes. -/
theorem BSl.text {base : Nat} {v : Value} (h : BSl w e base v l) {et : TypeId} (src dst : TypeId) (hs : P.underlying src = some (.slice et)) (he : P.underlying et = some (.int .u8)) (hd : P.underlying dst = some .string) :
    (convert src dst v).run P w = .ok (.string ⟨l.toArray⟩) w := by
  rcases h with ⟨rfl, rfl⟩ | ⟨g, cap, rfl, _, h⟩
  · rw [run_convert_bytes_string w src dst et none 0 0 hs he hd]
    simp [Conv.bytesToString]
    rfl
  · exact h.text src dst cap l.length hs he hd rfl
theorem append_one (w : World) (et : TypeId) (b : Nat) : ∀ j y, [UInt8.ofNat b][j]? = some y → b < 256 → (w.alloc (.cells #[.int .u8 (b : Int)] et)).cell? ((⟨w.heap.size, 0, none⟩ : Addr).add j) = some (.int .u8 (y.toNat : Int)) := by
  intro j y hy hb
  rcases j with _ | j
  · have : y = UInt8.ofNat b := by simpa using hy.symm
    subst this
    rw [UInt8.toNat_ofNat_of_lt' (by simpa using hb)]
    have e1 : (⟨w.heap.size, 0, none⟩ : Addr).add 0 = ⟨w.heap.size, 0, none⟩ := by simp [Addr.add]
    rw [e1]
    have h2 := heap_alloc_new w (.cells #[.int .u8 (b : Int)] et)
    unfold World.cell?
    rw [h2]
    rfl
  · simp at hy
end
end Go.Proofs.YtjnphajkoopkgaaGreatDoor
