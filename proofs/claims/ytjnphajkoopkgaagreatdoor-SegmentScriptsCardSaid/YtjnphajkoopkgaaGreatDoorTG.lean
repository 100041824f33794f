/- Merged texts. What each proves is told at its head. -/
import Derived.Test.YtjnphajkoopkgaaGreatDoorUM
import Derived.Laws.OwnMore
import Derived.Deep.RegionWith
import Derived.Deep.RegionHeld3
/- The document's own disk in memory, and its small calls. No condition. -/
namespace Go.Proofs.YtjnphajkoopkgaaGreatDoor.Dk.Kd
open Go.RowKit Go.Maps Go.ChangeMaps Go.WideMaps Go.Shelf
set_option linter.unusedVariables false
attribute [local go_sem ↓] Go.wp_at_zero Go.wp_at_succ
def fC (x : AF) : List Value := [.string ⟨x.1.toArray⟩, .string ⟨x.2.1.toArray⟩, .int .i64 (x.2.2 : Int)]
def fileCells (L : List AF) : List Value := L.flatMap fC
theorem fileCells_len : ∀ L : List AF, (fileCells L).length = L.length * 3
  | [] => rfl
  | x :: L => by
    have ih := fileCells_len L
    unfold fileCells at ih ⊢
    rw [List.flatMap_cons, List.length_append, ih, List.length_cons]
    show 3 + L.length * 3 = _
    omega
theorem fileCells_app (A B : List AF) : fileCells (A ++ B) = fileCells A ++ fileCells B := by unfold fileCells; rw [List.flatMap_append]
theorem fileCells_at {L : List AF} {j : Nat} {x : AF} (h : L[j]? = some x) : (fileCells L)[j * 3]? = some (.string ⟨x.1.toArray⟩) ∧ (fileCells L)[j * 3 + 1]? = some (.string ⟨x.2.1.toArray⟩) ∧ (fileCells L)[j * 3 + 2]? = some (.int .i64 (x.2.2 : Int)) := by
  induction L generalizing j with
  | nil => simp at h
  | cons y L ih =>
    cases j with
    | zero =>
      have : y = x := by simpa using h
      subst this
      exact ⟨rfl, rfl, rfl⟩
    | succ j =>
      have h' : L[j]? = some x := by simpa using h
      obtain ⟨a, b, c⟩ := ih h'
      have e : fileCells (y :: L) = fC y ++ fileCells L := by unfold fileCells; rw [List.flatMap_cons]
      have hl : (fC y).length = 3 := rfl
      rw [e]
      refine ⟨?_, ?_, ?_⟩
      · rw [List.getElem?_append_right (by omega), hl, show (j + 1) * 3 - 3 = j * 3 by omega]; exact a
      · rw [List.getElem?_append_right (by omega), hl, show (j + 1) * 3 + 1 - 3 = j * 3 + 1 by omega]; exact b
      · rw [List.getElem?_append_right (by omega), hl, show (j + 1) * 3 + 2 - 3 = j * 3 + 2 by omega]; exact c
theorem fileCells_take (L : List AF) (k : Nat) (hk : k ≤ L.length) : fileCells (L.take k) = (fileCells L).take (k * 3) := by
  have e : L.take k ++ L.drop k = L := List.take_append_drop k L
  have h : fileCells L = fileCells (L.take k) ++ fileCells (L.drop k) := by rw [← fileCells_app, e]
  have hl : (fileCells (L.take k)).length = k * 3 := by rw [fileCells_len, List.length_take]; congr 1; omega
  rw [h, ← hl, List.take_left]
theorem fileCells_drop (L : List AF) (k : Nat) (hk : k ≤ L.length) : fileCells (L.drop k) = (fileCells L).drop (k * 3) := by
  have e : L.take k ++ L.drop k = L := List.take_append_drop k L
  have h : fileCells L = fileCells (L.take k) ++ fileCells (L.drop k) := by rw [← fileCells_app, e]
  have hl : (fileCells (L.take k)).length = k * 3 := by rw [fileCells_len, List.length_take]; congr 1; omega
  rw [h, ← hl, List.drop_left]
theorem sortedL {w : World} {p : Nat} {d : DS} (h : Rep w p d) : (absL d.F).Pairwise fun a b => bytesBefore a.1 b.1 = true := by
  unfold absL
  rw [List.pairwise_map]
  exact h.sorted
theorem own_sl {w : World} {base size n : Nat} {t : TypeId} {v : Value} {xs : List Value} (h : w.ownsRow base t size v n xs) : ∃ ao n' cap, v = .slice ao n' cap := by
  rcases h.2 with ⟨hv, _⟩ | ⟨g, cap, cur, hv, _⟩
  · exact ⟨_, _, _, hv⟩
  · exact ⟨_, _, _, hv⟩
def fuseOf (a : Ab) : Int := if a.fused = true then a.left else -1
structure KAt (w : World) (q : Nat) (a : Ab) (v : Value) : Prop where
  box : Box w q 34 #[.int .i64 a.room, v, .int .i64 (fuseOf a)]
  row : w.ownsRow 0 120 3 v a.L.length (fileCells a.L)
/-- The document's disk at a place; its blocks are of S. -/
def KIs (w : World) (q : Nat) (a : Ab) (S : Nat → Prop) : Prop := ∃ v, KAt w q a v ∧ S q ∧ ∀ k, v.ownBlock = some k → S k
/-- What a disk may be. -/
structure AbOk (a : Ab) : Prop where
  room : 1 ≤ a.room ∧ a.room ≤ 4194304
  tot : (totL a.L : Int) ≤ a.room
  left : 0 ≤ a.left ∧ a.left ≤ 9223372036854775807
  sorted : a.L.Pairwise fun x y => bytesBefore x.1 y.1 = true
  each : ∀ x ∈ a.L, 1 ≤ x.1.length ∧ x.1.length ≤ 40 ∧ x.2.2 ≤ x.2.1.length
theorem Is.ok {w : World} {p : Nat} {a : Ab} {S : Nat → Prop} (h : Is w p a S) : AbOk a := by
  obtain ⟨d, hR, h1, h2, h3, h4, h5, h6⟩ := h
  have hu := hR.used
  refine ⟨by rw [← h1]; exact hR.room, by rw [← h4, abs_total, ← h1]; omega, by rw [← h3]; exact hR.left, by rw [← h4]; exact sortedL hR, fun x hx => ?_⟩
  rw [← h4] at hx
  obtain ⟨f, hf, rfl⟩ := List.mem_map.1 hx
  have fi := hR.files f hf
  exact ⟨fi.name.1, fi.name.2, fi.safe⟩
section
variable {w w' : World} {q : Nat} {a : Ab} {v : Value} {S T : Nat → Prop}
theorem KAt.ne (h : KAt w q a v) : ∀ k, v.ownBlock = some k → k ≠ q := own_ne h.row h.box (by decide)
theorem KAt.off (h : KAt w q a v) (ho : Off T w w') (h1 : ¬ T q) (h2 : ∀ k, v.ownBlock = some k → ¬ T k) : KAt w' q a v := ⟨h.box.off ho h1, own_off h.row ho h2⟩
theorem KAt.later (h : KAt w q a v) (hb : Below w.heap.size w w') : KAt w' q a v := h.off (Off.of_below (fun _ => False) hb) (fun x => x) (fun _ _ x => x)
theorem KAt.shape (h : KAt w q a v) : (v = .slice none 0 0 ∧ a.L = []) ∨ ∃ g cap, v = .slice (some ⟨g, 0, none⟩) a.L.length cap := by
  rcases h.row.2 with ⟨hv, h0⟩ | ⟨g, cap, cur, hv, _⟩
  · exact .inl ⟨hv, List.length_eq_zero_iff.1 h0⟩
  · exact .inr ⟨g, cap, hv⟩
theorem KAt.slice (h : KAt w q a v) : ∃ nb cap, v = .slice nb a.L.length cap := by
  rcases h.shape with ⟨h1, h2⟩ | ⟨g, cap, h1⟩
  · exact ⟨none, 0, by rw [h2]; exact h1⟩
  · exact ⟨_, _, h1⟩
/-- A file's three cells. -/
theorem KAt.file {nb : Option Addr} {m cap : Nat} (h : KAt w q a (.slice nb m cap)) {j : Nat} {x : AF} (hx : a.L[j]? = some x) :
    ∃ g, nb = some ⟨g, 0, none⟩ ∧ w.cell? ⟨g, j * 3, none⟩ = some (.string ⟨x.1.toArray⟩) ∧ w.cell? ⟨g, j * 3 + 1, none⟩ = some (.string ⟨x.2.1.toArray⟩) ∧ w.cell? ⟨g, j * 3 + 2, none⟩ = some (.int .i64 (x.2.2 : Int)) ∧ ∀ i, w.frozen? ⟨g, i, none⟩ = false := by
  have hj : j < a.L.length := (List.getElem?_eq_some_iff.1 hx).1
  rcases h.shape with ⟨h1, h2⟩ | ⟨g, cap', h1⟩
  · rw [h2] at hj; simp at hj
  · injection h1 with h1 hm _
    subst h1
    subst hm
    obtain ⟨e1, e2, e3⟩ := fileCells_at hx
    exact ⟨g, rfl, (h.row.cellAt (j * 3) (by omega)).trans e1, (h.row.cellAt (j * 3 + 1) (by omega)).trans e2, (h.row.cellAt (j * 3 + 2) (by omega)).trans e3, fun i => h.row.frozenAt i⟩
theorem KIs.off (h : KIs w q a S) (ho : Off T w w') (hST : ∀ k, S k → ¬ T k) : KIs w' q a S := by
  obtain ⟨v, h1, h2, h3⟩ := h
  exact ⟨v, h1.off ho (hST q h2) fun k hk => hST k (h3 k hk), h2, h3⟩
theorem KIs.mono (h : KIs w q a S) (hST : ∀ k, S k → T k) : KIs w q a T := by
  obtain ⟨v, h1, h2, h3⟩ := h
  exact ⟨v, h1, hST q h2, fun k hk => hST k (h3 k hk)⟩
theorem KIs.tight (h : KIs w q a S) : KIs w q a (fun k => S k ∧ k < w.heap.size) := by
  obtain ⟨v, h1, h2, h3⟩ := h
  exact ⟨v, h1, ⟨h2, h1.box.lt⟩, fun k hk => ⟨h3 k hk, (h1.row.lt k hk).2⟩⟩
end
def KDoes (W : World) (q : Nat) (S : Nat → Prop) (v : Value) (a : Ab) (e : Ending) (w' : World) : Prop :=
  e = .returned v ∧ KIs w' q a (fun k => S k ∨ W.heap.size ≤ k) ∧ Off S W w'
theorem kdoes_tells {W : World} {q : Nat} {a : Ab} {S : Nat → Prop} (h : KIs W q a S) {v : Value} {e : Ending} {w' : World} (ht : Tells W v e w') : KDoes W q S v a e w' := by
  obtain ⟨rfl, rfl⟩ := ht
  exact ⟨rfl, h.mono fun k hk => .inl hk, Off.refl _ _⟩
theorem fuse_up {a : Ab} (h : AbOk a) : upA a = (fuseOf a != 0) := by
  unfold upA fuseOf
  have := h.left
  cases a.fused with
  | false => rfl
  | true =>
    simp only [Bool.not_true, Bool.false_or, if_true]
    rw [Bool.eq_iff_iff]
    simp
    omega
theorem kup_c (q : Nat) (a : Ab) (v : Value) (W : World) (h : KAt W q a v) (ha : AbOk a) : Calls Tryz.prog 68 #[dp q] W (Tells W (.bool (upA a))) := by
  have y2 : W.cell? ⟨q, 2, none⟩ = some (.int .i64 (fuseOf a)) := (h.box.cell 2).trans rfl
  rw [fuse_up ha]
  clear h
  unfold dp
  generalize fuseOf a = n at *
  go_enter Tryz.func68, Tryz.ntmps68
  go_wp2
  go_ret
  exact ⟨rfl, rfl⟩
theorem knamed_c (n : ByteArray) (hn : n.size ≤ 140737488351232) (W : World) : Calls Tryz.prog 69 #[.string n] W (Tells W (.bool (nameB n))) := by
  unfold nameB
  by_cases h1 : 1 ≤ n.size
  · by_cases h2 : n.size ≤ 40
    · go_enter Tryz.func69, Tryz.ntmps69
      go_wp2
      go_ret
      refine ⟨?_, rfl⟩
      simp_all <;> omega
    · go_enter Tryz.func69, Tryz.ntmps69
      go_wp2
      go_ret
      refine ⟨?_, rfl⟩
      simp_all <;> omega
  · go_enter Tryz.func69, Tryz.ntmps69
    go_wp2
    go_ret
    refine ⟨?_, rfl⟩
    simp_all
theorem fuse_chg {a : Ab} (h : AbOk a) (hu : upA a = true) : fuseOf (chgA a) = if 0 < fuseOf a then fuseOf a - 1 else fuseOf a := by
  unfold fuseOf chgA
  rw [fuse_up h] at hu
  unfold fuseOf at hu
  have := h.left
  cases hf : a.fused with
  | false => simp
  | true =>
    rw [hf] at hu
    simp only [if_true] at hu ⊢
    have h0 : a.left ≠ 0 := by simpa using hu
    rw [if_pos (by omega)]
/-- The sum so far. -/
theorem totL_take {L : List AF} {j : Nat} {x : AF} (h : L[j]? = some x) : totL (L.take (j + 1)) = totL (L.take j) + x.2.1.length := by
  rw [List.take_add_one, h]
  simp [totL]
theorem totL_take_le (L : List AF) (j : Nat) : totL (L.take j) ≤ totL L := by
  have e : L.take j ++ L.drop j = L := List.take_append_drop j L
  have : totL L = totL (L.take j) + totL (L.drop j) := by
    conv => lhs; rw [← e]
    unfold totL
    rw [List.map_append, List.sum_append]
  omega
set_option maxHeartbeats 2000000 in
set_option maxRecDepth 100000 in
theorem kused_c (q : Nat) (a : Ab) (v : Value) (W : World) (h : KAt W q a v) (ha : AbOk a) (hlen : a.L.length ≤ 1000000) : Calls Tryz.prog 70 #[dp q] W (Tells W (.int .i64 (totL a.L))) := by
  obtain ⟨nb, cap, rfl⟩ := h.slice
  have y1 : W.cell? ⟨q, 1, none⟩ = some (.slice nb a.L.length cap) := (h.box.cell 1).trans rfl
  have HK := Lib.hid h
  have hto := ha.tot
  have hro := ha.room
  clear h
  unfold dp
  go_enter Tryz.func70, Tryz.ntmps70
  go_wp2_with fail
  go_loopw [3, 4] (fun n i wr => ∃ j : Nat, i = .int .i64 j ∧ n = .int .i64 (totL (a.L.take j)) ∧ j ≤ a.L.length ∧ W = wr) (fun _ i _ => a.L.length - (intOf i).toNat)
  case atStart => exact ⟨0, rfl, rfl, Nat.zero_le _, rfl⟩
  case round =>
    obtain ⟨j, rfl, rfl, hj, hw⟩ := hrel
    subst hw
    by_cases hjl : j < a.L.length
    · obtain ⟨x, hx⟩ : ∃ x, a.L[j]? = some x := ⟨_, List.getElem?_eq_getElem hjl⟩
      obtain ⟨g, rfl, c0, c1, c2, c3⟩ := HK.out.file hx
      have ht := totL_take hx
      have hle := totL_take_le a.L (j + 1)
      have hsz : (⟨x.2.1.toArray⟩ : ByteArray).size = x.2.1.length := by show x.2.1.toArray.size = _; simp
      generalize (⟨x.2.1.toArray⟩ : ByteArray) = sx at *
      go_wp2_with fail
      go_roundw
      case rel => exact ⟨j + 1, by go_num, by rw [ht]; go_num, hjl, trivial⟩
      case measure => simp [intOf]; omega
    · have hje : j = a.L.length := by omega
      subst hje
      rw [List.take_length]
      go_wp2
      go_ret
      exact ⟨rfl, rfl⟩
end Go.Proofs.YtjnphajkoopkgaaGreatDoor.Dk.Kd
/- The document's disk: find, Read, Sync. No condition. -/
namespace Go.Proofs.YtjnphajkoopkgaaGreatDoor.Dk.Kd
open Go.RowKit Go.Maps Go.ChangeMaps Go.WideMaps Go.Shelf
set_option linter.unusedVariables false
attribute [local go_sem ↓] Go.wp_at_zero Go.wp_at_succ
/-- Where the file of a name stands. -/
def kidx (n : List UInt8) : List AF → Nat → Int
  | [], _ => -1
  | x :: r, j => if x.1 = n then (j : Int) else kidx n r (j + 1)
theorem kidx_spec (n : List UInt8) : ∀ (L : List AF) (j : Nat), (kidx n L j = -1 ∧ findL L n = none) ∨ ∃ i x, kidx n L j = ((j + i : Nat) : Int) ∧ L[i]? = some x ∧ findL L n = some x ∧ x.1 = n
  | [], _ => .inl ⟨rfl, rfl⟩
  | x :: r, j => by
    unfold kidx
    by_cases h : x.1 = n
    · rw [if_pos h]
      refine .inr ⟨0, x, rfl, rfl, ?_, h⟩
      unfold findL
      rw [List.find?_cons, show (x.1 == n) = true by simpa using h]
    · rw [if_neg h]
      have hb : (x.1 == n) = false := by rw [beq_eq_false_iff_ne]; exact h
      rcases kidx_spec n r (j + 1) with ⟨h1, h2⟩ | ⟨i, y, h1, h2, h3, h4⟩
      · refine .inl ⟨h1, ?_⟩
        unfold findL at h2 ⊢
        rw [List.find?_cons, hb]
        exact h2
      · refine .inr ⟨i + 1, y, by rw [h1]; congr 1; omega, by simpa using h2, ?_, h4⟩
        unfold findL at h3 ⊢
        rw [List.find?_cons, hb]
        exact h3
theorem kidx_drop {n : List UInt8} {L : List AF} {j : Nat} {x : AF} (h : L[j]? = some x) : kidx n (L.drop j) j = if x.1 = n then (j : Int) else kidx n (L.drop (j + 1)) (j + 1) := by
  obtain ⟨hj, hx⟩ := List.getElem?_eq_some_iff.1 h
  rw [List.drop_eq_getElem_cons hj, hx]
  rfl
theorem cells_set1 {L : List AF} {j : Nat} {x : AF} (b : List UInt8) (h : L[j]? = some x) : (fileCells L).set (j * 3 + 1) (.string ⟨b.toArray⟩) = fileCells (L.set j (x.1, b, x.2.2)) := by
  induction L generalizing j with
  | nil => simp at h
  | cons y L ih =>
    have e : ∀ (z : AF) (M : List AF), fileCells (z :: M) = fC z ++ fileCells M := fun z M => by unfold fileCells; rw [List.flatMap_cons]
    cases j with
    | zero =>
      have : y = x := by simpa using h
      subst this
      rfl
    | succ j =>
      have h' : L[j]? = some x := by simpa using h
      have hl : (fC y).length = 3 := rfl
      rw [e, List.set_cons_succ, e, ← ih h', List.set_append_right _ _ (by omega), hl, show (j + 1) * 3 + 1 - 3 = j * 3 + 1 by omega]
theorem cells_set2 {L : List AF} {j : Nat} {x : AF} (s : Nat) (h : L[j]? = some x) : (fileCells L).set (j * 3 + 2) (.int .i64 (s : Int)) = fileCells (L.set j (x.1, x.2.1, s)) := by
  induction L generalizing j with
  | nil => simp at h
  | cons y L ih =>
    have e : ∀ (z : AF) (M : List AF), fileCells (z :: M) = fC z ++ fileCells M := fun z M => by unfold fileCells; rw [List.flatMap_cons]
    cases j with
    | zero =>
      have : y = x := by simpa using h
      subst this
      rfl
    | succ j =>
      have h' : L[j]? = some x := by simpa using h
      have hl : (fC y).length = 3 := rfl
      rw [e, List.set_cons_succ, e, ← ih h', List.set_append_right _ _ (by omega), hl, show (j + 1) * 3 + 2 - 3 = j * 3 + 2 by omega]
/-- In a list whose names rise, one file turned by its name is one turned by its place. -/
theorem setL_set {L : List AF} (hs : L.Pairwise fun x y => bytesBefore x.1 y.1 = true) {j : Nat} {x y : AF} (h : L[j]? = some x) : setL L x.1 y = L.set j y := by
  induction L generalizing j with
  | nil => simp at h
  | cons z L ih =>
    obtain ⟨p1, p2⟩ := List.pairwise_cons.1 hs
    cases j with
    | zero =>
      have : z = x := by simpa using h
      subst this
      unfold setL
      rw [List.map_cons, if_pos rfl, List.set_cons_zero]
      congr 1
      conv => rhs; rw [← List.map_id L]
      refine List.map_congr_left fun w hw => ?_
      rw [if_neg]
      · rfl
      · intro e
        have := p1 w hw
        rw [e, bytes_irrefl] at this
        cases this
    | succ j =>
      have h' : L[j]? = some x := by simpa using h
      have hne : z.1 ≠ x.1 := fun e => by
        have := p1 x (List.mem_of_getElem? h')
        rw [e, bytes_irrefl] at this
        cases this
      have ih := ih p2 h'
      unfold setL at ih ⊢
      rw [List.map_cons, if_neg hne, ih, List.set_cons_succ]
set_option maxHeartbeats 2000000 in
set_option maxRecDepth 100000 in
theorem kfind_c (q : Nat) (a : Ab) (v : Value) (n : ByteArray) (W : World) (h : KAt W q a v) (hlen : a.L.length ≤ 1000000) : Calls Tryz.prog 71 #[dp q, .string n] W (Tells W (.int .i64 (kidx n.data.toList a.L 0))) := by
  obtain ⟨nb, cap, rfl⟩ := h.slice
  have y1 : W.cell? ⟨q, 1, none⟩ = some (.slice nb a.L.length cap) := (h.box.cell 1).trans rfl
  have HK := Lib.hid h
  clear h
  unfold dp
  go_enter Tryz.func71, Tryz.ntmps71
  go_wp2_with fail
  go_loopw [5] (fun i wr => ∃ j : Nat, i = .int .i64 j ∧ kidx n.data.toList (a.L.drop j) j = kidx n.data.toList a.L 0 ∧ j ≤ a.L.length ∧ W = wr) (fun i _ => a.L.length - (intOf i).toNat)
  case atStart => exact ⟨0, rfl, rfl, Nat.zero_le _, rfl⟩
  case round =>
    obtain ⟨j, rfl, hki, hj, hw⟩ := hrel
    subst hw
    by_cases hjl : j < a.L.length
    · obtain ⟨x, hx⟩ : ∃ x, a.L[j]? = some x := ⟨_, List.getElem?_eq_getElem hjl⟩
      obtain ⟨g, rfl, c0, c1, c2, c3⟩ := HK.out.file hx
      rw [kidx_drop hx] at hki
      by_cases hn : x.1 = n.data.toList
      · rw [if_pos hn] at hki
        rw [← hki]
        have e0 : (⟨x.1.toArray⟩ : ByteArray) = n := by rw [hn]
        rw [e0] at c0
        clear hki hn e0
        go_wp2
        go_ret
        exact ⟨rfl, rfl⟩
      · rw [if_neg hn] at hki
        have hs : ((⟨x.1.toArray⟩ : ByteArray).toList == n.toList) = false := str_ne (fun e => hn (by rw [← e]))
        have HKI := Lib.hid hki
        clear hki hn
        generalize (⟨x.1.toArray⟩ : ByteArray) = sx at *
        go_wp2_with fail
        go_roundw
        case rel => exact ⟨j + 1, by go_num, HKI.out, hjl, trivial⟩
        case measure => simp [intOf]; omega
    · have hje : j = a.L.length := by omega
      subst hje
      rw [List.drop_length] at hki
      have hki' : kidx n.data.toList a.L 0 = -1 := hki.symm
      clear hki
      go_wp2
      go_ret
      refine ⟨?_, rfl⟩
      rw [hki']
      rfl
theorem kread_c (q : Nat) (a : Ab) (S : Nat → Prop) (n : ByteArray) (W : World) (h : KIs W q a S) (ha : AbOk a) (hlen : a.L.length ≤ 1000000) :
    Calls Tryz.prog 60 #[dp q, .string n] W (Tells W (.tuple #[.string ⟨(readV a n.data.toList).toArray⟩, .int .i64 (seeE a n.data.toList)])) := by
  obtain ⟨v, h, _, _⟩ := h
  have c1 := kup_c q a v W h ha
  have c2 := kfind_c q a v n W h hlen
  unfold seeE readV
  obtain ⟨nb, cap, rfl⟩ := h.slice
  have y1 : W.cell? ⟨q, 1, none⟩ = some (.slice nb a.L.length cap) := (h.box.cell 1).trans rfl
  unfold dp at *
  cases hu : upA a with
  | false =>
    rw [hu] at c1
    go_enter Tryz.func60, Tryz.ntmps60
    go_wp2_with fail
    (with_reducible refine c1.mono ?_)
    rintro en w1 ⟨rfl, rfl⟩
    go_wp2
    go_ret2
    exact ⟨rfl, rfl⟩
  | true =>
    rw [hu] at c1
    rcases kidx_spec n.data.toList a.L 0 with ⟨h1, h2⟩ | ⟨i, x, h1, h2, h3, h4⟩
    · rw [h1] at c2
      rw [h2]
      go_enter Tryz.func60, Tryz.ntmps60
      go_wp2_with fail
      (with_reducible refine c1.mono ?_)
      rintro en w1 ⟨rfl, hw⟩
      have hw' := hw.symm
      subst hw'
      go_wp2_with fail
      (with_reducible refine c2.mono ?_)
      rintro en w1 ⟨rfl, rfl⟩
      go_wp2
      go_ret2
      exact ⟨rfl, rfl⟩
    · rw [h1, Nat.zero_add] at c2
      rw [h3]
      obtain ⟨g, rfl, c0, d1, d2, d3⟩ := h.file h2
      have hil : i < a.L.length := (List.getElem?_eq_some_iff.1 h2).1
      clear h h1 h2 h3
      go_enter Tryz.func60, Tryz.ntmps60
      go_wp2_with fail
      (with_reducible refine c1.mono ?_)
      rintro en w1 ⟨rfl, hw⟩
      have hw' := hw.symm
      subst hw'
      go_wp2_with fail
      (with_reducible refine c2.mono ?_)
      rintro en w1 ⟨rfl, hw⟩
      have hw' := hw.symm
      subst hw'
      go_wp2
      go_ret2
      exact ⟨rfl, rfl⟩
theorem KAt.set1 {w : World} {q g cap : Nat} {a : Ab} (h : KAt w q a (.slice (some ⟨g, 0, none⟩) a.L.length cap)) {j : Nat} {x : AF} (hx : a.L[j]? = some x) (b : List UInt8) :
    KAt (w.setCell ⟨g, j * 3 + 1, none⟩ (.string ⟨b.toArray⟩)) q { a with L := a.L.set j (x.1, b, x.2.2) } (.slice (some ⟨g, 0, none⟩) a.L.length cap) ∧ Off (fun k => k = g) w (w.setCell ⟨g, j * 3 + 1, none⟩ (.string ⟨b.toArray⟩)) := by
  have hne : g ≠ q := h.ne g rfl
  refine ⟨⟨h.box.far (p := ⟨g, j * 3 + 1, none⟩) (fun e => hne e.symm) _, ?_⟩, Off.one w ⟨g, j * 3 + 1, none⟩ _⟩
  have q1 := (h.row.stored (j * 3 + 1) (.string ⟨b.toArray⟩)).1
  rw [cells_set1 b hx] at q1
  show World.ownsRow _ 0 120 3 _ (a.L.set j (x.1, b, x.2.2)).length (fileCells (a.L.set j (x.1, b, x.2.2)))
  rw [List.length_set]
  exact q1
theorem KAt.set2 {w : World} {q g cap : Nat} {a : Ab} (h : KAt w q a (.slice (some ⟨g, 0, none⟩) a.L.length cap)) {j : Nat} {x : AF} (hx : a.L[j]? = some x) (s : Nat) :
    KAt (w.setCell ⟨g, j * 3 + 2, none⟩ (.int .i64 (s : Int))) q { a with L := a.L.set j (x.1, x.2.1, s) } (.slice (some ⟨g, 0, none⟩) a.L.length cap) ∧ Off (fun k => k = g) w (w.setCell ⟨g, j * 3 + 2, none⟩ (.int .i64 (s : Int))) := by
  have hne : g ≠ q := h.ne g rfl
  refine ⟨⟨h.box.far (p := ⟨g, j * 3 + 2, none⟩) (fun e => hne e.symm) _, ?_⟩, Off.one w ⟨g, j * 3 + 2, none⟩ _⟩
  have q1 := (h.row.stored (j * 3 + 2) (.int .i64 (s : Int))).1
  rw [cells_set2 s hx] at q1
  show World.ownsRow _ 0 120 3 _ (a.L.set j (x.1, x.2.1, s)).length (fileCells (a.L.set j (x.1, x.2.1, s)))
  rw [List.length_set]
  exact q1
theorem KAt.set2' {w : World} {q g m cap : Nat} {a : Ab} (h : KAt w q a (.slice (some ⟨g, 0, none⟩) m cap)) {j : Nat} {x : AF} (hx : a.L[j]? = some x) (s : Nat) :
    KAt (w.setCell ⟨g, j * 3 + 2, none⟩ (.int .i64 (s : Int))) q { a with L := a.L.set j (x.1, x.2.1, s) } (.slice (some ⟨g, 0, none⟩) m cap) ∧ Off (fun k => k = g) w (w.setCell ⟨g, j * 3 + 2, none⟩ (.int .i64 (s : Int))) := by
  have hm : m = a.L.length := by
    rcases h.shape with ⟨h1, _⟩ | ⟨g', cap', h1⟩
    · cases h1
    · injection h1
  subst hm
  exact h.set2 hx s
theorem KAt.set1' {w : World} {q g m cap : Nat} {a : Ab} (h : KAt w q a (.slice (some ⟨g, 0, none⟩) m cap)) {j : Nat} {x : AF} (hx : a.L[j]? = some x) (b : List UInt8) :
    KAt (w.setCell ⟨g, j * 3 + 1, none⟩ (.string ⟨b.toArray⟩)) q { a with L := a.L.set j (x.1, b, x.2.2) } (.slice (some ⟨g, 0, none⟩) m cap) ∧ Off (fun k => k = g) w (w.setCell ⟨g, j * 3 + 1, none⟩ (.string ⟨b.toArray⟩)) := by
  have hm : m = a.L.length := by
    rcases h.shape with ⟨h1, _⟩ | ⟨g', cap', h1⟩
    · cases h1
    · injection h1
  subst hm
  exact h.set1 hx b
theorem AbOk.list {a : Ab} (h : AbOk a) (L : List AF) (ht : (totL L : Int) ≤ a.room) (hs : L.Pairwise fun x y => bytesBefore x.1 y.1 = true) (he : ∀ x ∈ L, 1 ≤ x.1.length ∧ x.1.length ≤ 40 ∧ x.2.2 ≤ x.2.1.length) : AbOk { a with L := L } :=
  ⟨h.room, ht, h.left, hs, he⟩
/-- What 'changed' wants of a disk is in its numbers alone. -/
theorem kchg {q : Nat} {a : Ab} {v : Value} {W : World} {L : List AF} (h : KAt W q { a with L := L } v) (ha : AbOk a) (hu : upA a = true) :
    Calls Tryz.prog 73 #[dp q] W (fun e w' => e = .returned (.int .i64 0) ∧ KAt w' q { chgA a with L := L } v ∧ Off (fun k => k = q) W w') := by
  have h0 : KAt W q { a with L := L } v := h
  have y2 : W.cell? ⟨q, 2, none⟩ = some (.int .i64 (fuseOf a)) := (h.box.cell 2).trans rfl
  have z2 : W.frozen? ⟨q, 2, none⟩ = false := h.box.frozen 2
  have hl := ha.left
  have hfr : -1 ≤ fuseOf a ∧ fuseOf a ≤ 9223372036854775807 := by unfold fuseOf; split <;> omega
  by_cases hp : 0 < fuseOf a
  · have hb : Box (W.setCell ⟨q, 2, none⟩ (.int .i64 (fuseOf a - 1))) q 34 #[.int .i64 a.room, v, .int .i64 (fuseOf (chgA a))] := by
      rw [fuse_chg ha hu, if_pos hp]
      exact h.box.set 2 _
    have hk : KAt (W.setCell ⟨q, 2, none⟩ (.int .i64 (fuseOf a - 1))) q { chgA a with L := L } v := ⟨hb, own_off h.row (Off.one W ⟨q, 2, none⟩ _) (fun k hk e => h.ne k hk e)⟩
    have HK := Lib.hid hk
    clear h hb hk hu ha hl h0
    unfold dp
    generalize fuseOf a = n at *
    go_enter Tryz.func73, Tryz.ntmps73
    go_wp2
    go_ret
    exact ⟨rfl, HK.out, Off.one W ⟨q, 2, none⟩ _⟩
  · have hk : KAt W q { chgA a with L := L } v := ⟨by have hb := h.box; rw [show fuseOf { a with L := L } = fuseOf a from rfl] at hb; rw [show fuseOf { chgA a with L := L } = fuseOf (chgA a) from rfl, fuse_chg ha hu, if_neg hp]; exact hb, h.row⟩
    have HK := Lib.hid hk
    clear h hk hu ha hl h0
    unfold dp
    generalize fuseOf a = n at *
    go_enter Tryz.func73, Tryz.ntmps73
    go_wp2
    go_ret
    exact ⟨rfl, HK.out, Off.refl _ _⟩
set_option maxHeartbeats 2000000 in
set_option maxRecDepth 100000 in
theorem ksync_c (q : Nat) (a : Ab) (S : Nat → Prop) (n : ByteArray) (W : World) (h : KIs W q a S) (ha : AbOk a) (hlen : a.L.length ≤ 1000000) :
    Calls Tryz.prog 64 #[dp q, .string n] W (KDoes W q S (.int .i64 (seeE a n.data.toList)) (syncA a n.data.toList)) := by
  have hI := h
  obtain ⟨v, h, hq, hvS⟩ := h
  have c1 := kup_c q a v W h ha
  have c2 := kfind_c q a v n W h hlen
  unfold seeE syncA
  obtain ⟨nb, cap, rfl⟩ := h.slice
  have y1 : W.cell? ⟨q, 1, none⟩ = some (.slice nb a.L.length cap) := (h.box.cell 1).trans rfl
  unfold dp at *
  cases hu : upA a with
  | false =>
    rw [hu] at c1
    go_enter Tryz.func64, Tryz.ntmps64
    go_wp2_with fail
    (with_reducible refine c1.mono ?_)
    rintro en w1 ⟨rfl, rfl⟩
    go_wp2
    go_ret
    exact kdoes_tells hI ⟨rfl, rfl⟩
  | true =>
    rw [hu] at c1
    rcases kidx_spec n.data.toList a.L 0 with ⟨h1, h2⟩ | ⟨i, x, h1, h2, h3, h4⟩
    · rw [h1] at c2
      rw [h2]
      go_enter Tryz.func64, Tryz.ntmps64
      go_wp2_with fail
      (with_reducible refine c1.mono ?_)
      rintro en w1 ⟨rfl, hw⟩
      have hw' := hw.symm
      subst hw'
      go_wp2_with fail
      (with_reducible refine c2.mono ?_)
      rintro en w1 ⟨rfl, rfl⟩
      go_wp2
      go_ret
      exact kdoes_tells hI ⟨rfl, rfl⟩
    · rw [h1, Nat.zero_add] at c2
      rw [h3]
      obtain ⟨g, rfl, c0, d1, d2, d3⟩ := h.file h2
      have hil : i < a.L.length := (List.getElem?_eq_some_iff.1 h2).1
      obtain ⟨k0, o0⟩ := h.set2 h2 x.2.1.length
      have k1 := k0.later (Below.refl _ _).drew
      have o1 := o0.drew
      have hsz : (⟨x.2.1.toArray⟩ : ByteArray).size = x.2.1.length := by show x.2.1.toArray.size = _; simp
      have K1 := Lib.hid k1
      have O1 := Lib.hid o1
      obtain ⟨g', hg', b0, b1, b2, b3⟩ := k1.file (j := i) (x := (x.1, x.2.1, x.2.1.length)) (by show (a.L.set i _)[i]? = _; rw [List.getElem?_set_self hil])
      have hgg : g' = g := by injection hg' with e; injection e with e; exact e.symm
      subst hgg
      have y1' := (k1.box.cell 1).trans rfl
      simp only [List.getElem?_toArray, List.getElem?_cons_zero, List.getElem?_cons_succ] at y1'
      have hch := kchg k1 ha hu
      have hset := setL_set ha.sorted (y := (n.data.toList, x.2.1, x.2.1.length)) h2
      rw [h4] at hset
      have HS := Lib.hid hset
      have H4 := Lib.hid h4
      clear h h1 h3 k1 o1 k0 o0 hset hg'
      generalize (⟨x.2.1.toArray⟩ : ByteArray) = sx at *
      unfold dp at hch
      go_enter Tryz.func64, Tryz.ntmps64
      go_wp2_with fail
      (with_reducible refine c1.mono ?_)
      rintro en w1 ⟨rfl, hw⟩
      have hw' := hw.symm
      subst hw'
      go_wp2_with fail
      (with_reducible refine c2.mono ?_)
      rintro en w1 ⟨rfl, hw⟩
      have hw' := hw.symm
      subst hw'
      go_wp2_with fail
      go_region_held3 (fun w => w.cell? ⟨q, 1, none⟩ = some (.slice (some ⟨g', 0, none⟩) a.L.length cap) ∧ w.cell? ⟨g', i * 3 + 1, none⟩ = some (.string sx)) (first | exact ⟨y1, d1⟩ | exact ⟨y1', b1⟩) (fail)
      go_wp2_with fail
      (with_reducible refine hch.mono ?_)
      rintro en w1 ⟨rfl, hk2, ho2⟩
      go_wp2
      go_ret
      refine ⟨rfl, ⟨_, ?_, .inl hq, fun k hk => .inl (hvS k hk)⟩, ?_⟩
      · rw [HS.out, ← H4.out]
        exact hk2
      · refine ((O1.out.mono fun k _ e => ?_).trans ho2 fun k _ e => ?_)
        · exact hvS k (by rw [e]; rfl)
        · rw [e]; exact hq
end Go.Proofs.YtjnphajkoopkgaaGreatDoor.Dk.Kd
