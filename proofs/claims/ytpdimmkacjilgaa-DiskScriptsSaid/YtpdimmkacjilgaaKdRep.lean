/- The document's own disk in memory, and its small calls. No condition. -/
import Derived.Test.YtpdimmkacjilgaaDkTwo
import Derived.Laws.OwnMore
namespace Go.Proofs.Ytpdimmkacjilgaa
open Go.RowKit Go.Maps Go.ChangeMaps Go.WideMaps Go.Shelf
set_option linter.unusedVariables false
attribute [local go_sem ↓] Go.wp_at_zero Go.wp_at_succ
def fC (x : AF) : List Value := [.string ⟨x.1.toArray⟩, .string ⟨x.2.1.toArray⟩, .int .i64 (x.2.2 : Int)]
def fileCells (L : List AF) : List Value := L.flatMap fC
theorem fileCells_len : ∀ L : List AF, (fileCells L).length = L.length * 3
  | [] => rfl
  | x :: L => by
    have ih := fileCells_len L
    unfold fileCells at ih ⊢
    rw [List.flatMap_cons, List.length_append, ih, List.length_cons]
    show 3 + L.length * 3 = _
    omega
theorem fileCells_app (A B : List AF) : fileCells (A ++ B) = fileCells A ++ fileCells B := by unfold fileCells; rw [List.flatMap_append]
theorem fileCells_at {L : List AF} {j : Nat} {x : AF} (h : L[j]? = some x) : (fileCells L)[j * 3]? = some (.string ⟨x.1.toArray⟩) ∧ (fileCells L)[j * 3 + 1]? = some (.string ⟨x.2.1.toArray⟩) ∧ (fileCells L)[j * 3 + 2]? = some (.int .i64 (x.2.2 : Int)) := by
  induction L generalizing j with
  | nil => simp at h
  | cons y L ih =>
    cases j with
    | zero =>
      have : y = x := by simpa using h
      subst this
      exact ⟨rfl, rfl, rfl⟩
    | succ j =>
      have h' : L[j]? = some x := by simpa using h
      obtain ⟨a, b, c⟩ := ih h'
      have e : fileCells (y :: L) = fC y ++ fileCells L := by unfold fileCells; rw [List.flatMap_cons]
      have hl : (fC y).length = 3 := rfl
      rw [e]
      refine ⟨?_, ?_, ?_⟩
      · rw [List.getElem?_append_right (by omega), hl, show (j + 1) * 3 - 3 = j * 3 by omega]; exact a
      · rw [List.getElem?_append_right (by omega), hl, show (j + 1) * 3 + 1 - 3 = j * 3 + 1 by omega]; exact b
      · rw [List.getElem?_append_right (by omega), hl, show (j + 1) * 3 + 2 - 3 = j * 3 + 2 by omega]; exact c
theorem fileCells_take (L : List AF) (k : Nat) (hk : k ≤ L.length) : fileCells (L.take k) = (fileCells L).take (k * 3) := by
  have e : L.take k ++ L.drop k = L := List.take_append_drop k L
  have h : fileCells L = fileCells (L.take k) ++ fileCells (L.drop k) := by rw [← fileCells_app, e]
  have hl : (fileCells (L.take k)).length = k * 3 := by rw [fileCells_len, List.length_take]; congr 1; omega
  rw [h, ← hl, List.take_left]
theorem fileCells_drop (L : List AF) (k : Nat) (hk : k ≤ L.length) : fileCells (L.drop k) = (fileCells L).drop (k * 3) := by
  have e : L.take k ++ L.drop k = L := List.take_append_drop k L
  have h : fileCells L = fileCells (L.take k) ++ fileCells (L.drop k) := by rw [← fileCells_app, e]
  have hl : (fileCells (L.take k)).length = k * 3 := by rw [fileCells_len, List.length_take]; congr 1; omega
  rw [h, ← hl, List.drop_left]
def fuseOf (a : Ab) : Int := if a.fused = true then a.left else -1
structure KAt (w : World) (q : Nat) (a : Ab) (v : Value) : Prop where
  box : Box w q 31 #[.int .i64 a.room, v, .int .i64 (fuseOf a)]
  row : w.ownsRow 0 63 3 v a.L.length (fileCells a.L)
/-- The document's disk at a place; its blocks are of S. -/
def KIs (w : World) (q : Nat) (a : Ab) (S : Nat → Prop) : Prop := ∃ v, KAt w q a v ∧ S q ∧ ∀ k, v.ownBlock = some k → S k
/-- What a disk may be. -/
structure AbOk (a : Ab) : Prop where
  room : 1 ≤ a.room ∧ a.room ≤ 4194304
  tot : (totL a.L : Int) ≤ a.room
  left : 0 ≤ a.left ∧ a.left ≤ 9223372036854775807
  sorted : a.L.Pairwise fun x y => bytesBefore x.1 y.1 = true
  each : ∀ x ∈ a.L, 1 ≤ x.1.length ∧ x.1.length ≤ 40 ∧ x.2.2 ≤ x.2.1.length
theorem Is.ok {w : World} {p : Nat} {a : Ab} {S : Nat → Prop} (h : Is w p a S) : AbOk a := by
  obtain ⟨d, hR, h1, h2, h3, h4, h5, h6⟩ := h
  have hu := hR.used
  refine ⟨by rw [← h1]; exact hR.room, by rw [← h4, abs_total, ← h1]; omega, by rw [← h3]; exact hR.left, by rw [← h4]; exact sortedL hR, fun x hx => ?_⟩
  rw [← h4] at hx
  obtain ⟨f, hf, rfl⟩ := List.mem_map.1 hx
  have fi := hR.files f hf
  exact ⟨fi.name.1, fi.name.2, fi.safe⟩
section
variable {w w' : World} {q : Nat} {a : Ab} {v : Value} {S T : Nat → Prop}
theorem KAt.ne (h : KAt w q a v) : ∀ k, v.ownBlock = some k → k ≠ q := own_ne h.row h.box (by decide)
theorem KAt.off (h : KAt w q a v) (ho : Off T w w') (h1 : ¬ T q) (h2 : ∀ k, v.ownBlock = some k → ¬ T k) : KAt w' q a v := ⟨h.box.off ho h1, own_off h.row ho h2⟩
theorem KAt.later (h : KAt w q a v) (hb : Below w.heap.size w w') : KAt w' q a v := h.off (Off.of_below (fun _ => False) hb) (fun x => x) (fun _ _ x => x)
theorem KAt.shape (h : KAt w q a v) : (v = .slice none 0 0 ∧ a.L = []) ∨ ∃ g cap, v = .slice (some ⟨g, 0, none⟩) a.L.length cap := by
  rcases h.row.2 with ⟨hv, h0⟩ | ⟨g, cap, cur, hv, _⟩
  · exact .inl ⟨hv, List.length_eq_zero_iff.1 h0⟩
  · exact .inr ⟨g, cap, hv⟩
theorem KAt.slice (h : KAt w q a v) : ∃ nb cap, v = .slice nb a.L.length cap := by
  rcases h.shape with ⟨h1, h2⟩ | ⟨g, cap, h1⟩
  · exact ⟨none, 0, by rw [h2]; exact h1⟩
  · exact ⟨_, _, h1⟩
/-- A file's three cells. -/
theorem KAt.file {nb : Option Addr} {m cap : Nat} (h : KAt w q a (.slice nb m cap)) {j : Nat} {x : AF} (hx : a.L[j]? = some x) :
    ∃ g, nb = some ⟨g, 0, none⟩ ∧ w.cell? ⟨g, j * 3, none⟩ = some (.string ⟨x.1.toArray⟩) ∧ w.cell? ⟨g, j * 3 + 1, none⟩ = some (.string ⟨x.2.1.toArray⟩) ∧ w.cell? ⟨g, j * 3 + 2, none⟩ = some (.int .i64 (x.2.2 : Int)) ∧ ∀ i, w.frozen? ⟨g, i, none⟩ = false := by
  have hj : j < a.L.length := (List.getElem?_eq_some_iff.1 hx).1
  rcases h.shape with ⟨h1, h2⟩ | ⟨g, cap', h1⟩
  · rw [h2] at hj; simp at hj
  · injection h1 with h1 hm _
    subst h1
    subst hm
    obtain ⟨e1, e2, e3⟩ := fileCells_at hx
    exact ⟨g, rfl, (h.row.cellAt (j * 3) (by omega)).trans e1, (h.row.cellAt (j * 3 + 1) (by omega)).trans e2, (h.row.cellAt (j * 3 + 2) (by omega)).trans e3, fun i => h.row.frozenAt i⟩
theorem KIs.off (h : KIs w q a S) (ho : Off T w w') (hST : ∀ k, S k → ¬ T k) : KIs w' q a S := by
  obtain ⟨v, h1, h2, h3⟩ := h
  exact ⟨v, h1.off ho (hST q h2) fun k hk => hST k (h3 k hk), h2, h3⟩
theorem KIs.mono (h : KIs w q a S) (hST : ∀ k, S k → T k) : KIs w q a T := by
  obtain ⟨v, h1, h2, h3⟩ := h
  exact ⟨v, h1, hST q h2, fun k hk => hST k (h3 k hk)⟩
theorem KIs.tight (h : KIs w q a S) : KIs w q a (fun k => S k ∧ k < w.heap.size) := by
  obtain ⟨v, h1, h2, h3⟩ := h
  exact ⟨v, h1, ⟨h2, h1.box.lt⟩, fun k hk => ⟨h3 k hk, (h1.row.lt k hk).2⟩⟩
end
def KDoes (W : World) (q : Nat) (S : Nat → Prop) (v : Value) (a : Ab) (e : Ending) (w' : World) : Prop :=
  e = .returned v ∧ KIs w' q a (fun k => S k ∨ W.heap.size ≤ k) ∧ Off S W w'
theorem kdoes_tells {W : World} {q : Nat} {a : Ab} {S : Nat → Prop} (h : KIs W q a S) {v : Value} {e : Ending} {w' : World} (ht : Tells W v e w') : KDoes W q S v a e w' := by
  obtain ⟨rfl, rfl⟩ := ht
  exact ⟨rfl, h.mono fun k hk => .inl hk, Off.refl _ _⟩
theorem fuse_up {a : Ab} (h : AbOk a) : upA a = (fuseOf a != 0) := by
  unfold upA fuseOf
  have := h.left
  cases a.fused with
  | false => rfl
  | true =>
    simp only [Bool.not_true, Bool.false_or, if_true]
    rw [Bool.eq_iff_iff]
    simp
    omega
theorem kup_c (q : Nat) (a : Ab) (v : Value) (W : World) (h : KAt W q a v) (ha : AbOk a) : Calls Try.prog 36 #[dp q] W (Tells W (.bool (upA a))) := by
  have y2 : W.cell? ⟨q, 2, none⟩ = some (.int .i64 (fuseOf a)) := (h.box.cell 2).trans rfl
  rw [fuse_up ha]
  clear h
  unfold dp
  generalize fuseOf a = n at *
  go_enter Try.func36, Try.ntmps36
  go_wp2
  go_ret
  exact ⟨rfl, rfl⟩
theorem knamed_c (n : ByteArray) (hn : n.size ≤ 140737488351232) (W : World) : Calls Try.prog 48 #[.string n] W (Tells W (.bool (nameB n))) := by
  unfold nameB
  by_cases h1 : 1 ≤ n.size
  · by_cases h2 : n.size ≤ 40
    · go_enter Try.func48, Try.ntmps48
      go_wp2
      go_ret
      refine ⟨?_, rfl⟩
      simp_all <;> omega
    · go_enter Try.func48, Try.ntmps48
      go_wp2
      go_ret
      refine ⟨?_, rfl⟩
      simp_all <;> omega
  · go_enter Try.func48, Try.ntmps48
    go_wp2
    go_ret
    refine ⟨?_, rfl⟩
    simp_all
theorem fuse_chg {a : Ab} (h : AbOk a) (hu : upA a = true) : fuseOf (chgA a) = if 0 < fuseOf a then fuseOf a - 1 else fuseOf a := by
  unfold fuseOf chgA
  rw [fuse_up h] at hu
  unfold fuseOf at hu
  have := h.left
  cases hf : a.fused with
  | false => simp
  | true =>
    rw [hf] at hu
    simp only [if_true] at hu ⊢
    have h0 : a.left ≠ 0 := by simpa using hu
    rw [if_pos (by omega)]
theorem kchanged_c (q : Nat) (a : Ab) (v : Value) (W : World) (h : KAt W q a v) (ha : AbOk a) (hu : upA a = true) :
    Calls Try.prog 51 #[dp q] W (fun e w' => e = .returned (.int .i64 0) ∧ KAt w' q (chgA a) v ∧ Off (fun k => k = q) W w') := by
  have y2 : W.cell? ⟨q, 2, none⟩ = some (.int .i64 (fuseOf a)) := (h.box.cell 2).trans rfl
  have z2 : W.frozen? ⟨q, 2, none⟩ = false := h.box.frozen 2
  have hl := ha.left
  have hfr : -1 ≤ fuseOf a ∧ fuseOf a ≤ 9223372036854775807 := by unfold fuseOf; split <;> omega
  by_cases hp : 0 < fuseOf a
  · have hb : Box (W.setCell ⟨q, 2, none⟩ (.int .i64 (fuseOf a - 1))) q 31 #[.int .i64 (chgA a).room, v, .int .i64 (fuseOf (chgA a))] := by
      rw [fuse_chg ha hu, if_pos hp]
      exact h.box.set 2 _
    have hk : KAt (W.setCell ⟨q, 2, none⟩ (.int .i64 (fuseOf a - 1))) q (chgA a) v := ⟨hb, own_off h.row (Off.one W ⟨q, 2, none⟩ _) (fun k hk e => h.ne k hk e)⟩
    have HK := Lib.hid hk
    clear h hb hk hu ha hl
    unfold dp
    generalize fuseOf a = n at *
    go_enter Try.func51, Try.ntmps51
    go_wp2
    go_ret
    exact ⟨rfl, HK.out, Off.one W ⟨q, 2, none⟩ _⟩
  · have hk : KAt W q (chgA a) v := ⟨by rw [fuse_chg ha hu, if_neg hp]; exact h.box, h.row⟩
    have HK := Lib.hid hk
    clear h hk hu ha hl
    unfold dp
    generalize fuseOf a = n at *
    go_enter Try.func51, Try.ntmps51
    go_wp2
    go_ret
    exact ⟨rfl, HK.out, Off.refl _ _⟩
/-- The sum so far. -/
theorem totL_take {L : List AF} {j : Nat} {x : AF} (h : L[j]? = some x) : totL (L.take (j + 1)) = totL (L.take j) + x.2.1.length := by
  rw [List.take_add_one, h]
  simp [totL]
theorem totL_take_le (L : List AF) (j : Nat) : totL (L.take j) ≤ totL L := by
  have e : L.take j ++ L.drop j = L := List.take_append_drop j L
  have : totL L = totL (L.take j) + totL (L.drop j) := by
    conv => lhs; rw [← e]
    unfold totL
    rw [List.map_append, List.sum_append]
  omega
set_option maxHeartbeats 2000000 in
set_option maxRecDepth 100000 in
theorem kused_c (q : Nat) (a : Ab) (v : Value) (W : World) (h : KAt W q a v) (ha : AbOk a) (hlen : a.L.length ≤ 1000000) : Calls Try.prog 37 #[dp q] W (Tells W (.int .i64 (totL a.L))) := by
  obtain ⟨nb, cap, rfl⟩ := h.slice
  have y1 : W.cell? ⟨q, 1, none⟩ = some (.slice nb a.L.length cap) := (h.box.cell 1).trans rfl
  have HK := Lib.hid h
  have hto := ha.tot
  have hro := ha.room
  clear h
  unfold dp
  go_enter Try.func37, Try.ntmps37
  go_wp2_with fail
  go_loopw [3, 4] (fun n i wr => ∃ j : Nat, i = .int .i64 j ∧ n = .int .i64 (totL (a.L.take j)) ∧ j ≤ a.L.length ∧ W = wr) (fun _ i _ => a.L.length - (intOf i).toNat)
  case atStart => exact ⟨0, rfl, rfl, Nat.zero_le _, rfl⟩
  case round =>
    obtain ⟨j, rfl, rfl, hj, hw⟩ := hrel
    subst hw
    by_cases hjl : j < a.L.length
    · obtain ⟨x, hx⟩ : ∃ x, a.L[j]? = some x := ⟨_, List.getElem?_eq_getElem hjl⟩
      obtain ⟨g, rfl, c0, c1, c2, c3⟩ := HK.out.file hx
      have ht := totL_take hx
      have hle := totL_take_le a.L (j + 1)
      have hsz : (⟨x.2.1.toArray⟩ : ByteArray).size = x.2.1.length := by show x.2.1.toArray.size = _; simp
      generalize (⟨x.2.1.toArray⟩ : ByteArray) = sx at *
      go_wp2_with fail
      go_roundw
      case rel => exact ⟨j + 1, by go_num, by rw [ht]; go_num, hjl, trivial⟩
      case measure => simp [intOf]; omega
    · have hje : j = a.L.length := by omega
      subst hje
      rw [List.take_length]
      go_wp2
      go_ret
      exact ⟨rfl, rfl⟩
end Go.Proofs.Ytpdimmkacjilgaa
