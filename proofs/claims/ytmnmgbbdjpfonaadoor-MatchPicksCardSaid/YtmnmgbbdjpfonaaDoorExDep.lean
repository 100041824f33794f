/- expr: the document's Depth and Size by contracts. -/
import Derived.Test.YtmnmgbbdjpfonaaDoorExBase
import Derived.LoopTactic
namespace Go.Proofs.YtmnmgbbdjpfonaaDoor
open Go.RowKit
set_option linter.unusedVariables false
/-- How deep, counted to n + 1. -/
def depthN : Nat → Tr → Nat
  | 0, _ => 1
  | n + 1, t => t.kids.foldl (fun m x => max m (depthN n x)) 0 + 1
theorem fold_snoc {α : Type} (f : Nat → α → Nat) (L : List α) (z k : Nat) (hk : k < L.length) : (L.take (k + 1)).foldl f z = f ((L.take k).foldl f z) L[k] := by
  rw [List.take_add_one, List.getElem?_eq_getElem hk, Option.toList_some, List.foldl_append]; rfl
theorem fold_le (n : Nat) (B : Nat) (h : ∀ x, depthN n x ≤ B) (L : List Tr) (z : Nat) (hz : z ≤ B) : L.foldl (fun m x => max m (depthN n x)) z ≤ B := by
  induction L generalizing z with
  | nil => exact hz
  | cons x L ih => exact ih _ (Nat.max_le.2 ⟨hz, h x⟩)
theorem depthN_le (n : Nat) (t : Tr) : depthN n t ≤ n + 1 := by
  induction n generalizing t with
  | zero => exact Nat.le_refl _
  | succ n ih => exact Nat.succ_le_succ (fold_le n _ ih _ _ (by omega))
set_option maxHeartbeats 2000000 in
set_option maxRecDepth 100000 in
theorem rdepth_in (ok : Nat → Prop) (d n : Nat) (t : Tr) (A : Option Addr) (c : Nat) (W : World) (hn : n ≤ 100) (hT : TrAt ok W d A t)
    (ih : ∀ d', d = d' + 1 → ∀ (n : Nat) (t : Tr) (A : Option Addr) (c : Nat) (W : World), n ≤ 100 → TrAt ok W d' A t →
      Calls Tryd.prog 28 #[exV t A c, .int .i64 ((n + 1 : Nat) : Int)] W (Good W (.int .i64 (depthN n t)))) :
    Calls Tryd.prog 28 #[exV t A c, .int .i64 ((n + 1 : Nat) : Int)] W (Good W (.int .i64 (depthN n t))) := by
  cases n with
  | zero =>
    unfold exV exC
    have hb := (Boxed.start W t A c).bel
    unfold exC at hb
    go_enter Tryd.func28, Tryd.ntmps28
    go_wp2
    go_ret
    exact ⟨rfl, hb⟩
  | succ n =>
    have HT := Lib.hid hT
    have HN := Lib.hid hT.node
    have hkl := hT.node.kids
    have ih' := fun d' hd x A c W h => ih d' hd n x A c W (by omega) h
    clear ih hT
    have hc : ∀ w, Boxed W t A c w → _ := fun w h => h.cells
    have HB := Lib.hid (Boxed.start W t A c)
    have hD := depthN_le n
    have hl1 : ¬ (((n + 1 + 1 : Nat) : Int) ≤ 1) := by omega
    have hl2 : ((n + 1 : Nat) : Int) = ((n + 1 + 1 : Nat) : Int) - 1 := by omega
    have hl3 : ((n + 1 + 1 : Nat) : Int) ≤ 102 := by omega
    rw [hl2] at ih'
    clear hl2
    generalize ((n + 1 + 1 : Nat) : Int) = z at *
    unfold exV exC at *
    go_enter Tryd.func28, Tryd.ntmps28
    go_wp2
    go_loopw [5, 6] (fun m i wr => ∃ k : Nat, i = .int .i64 k ∧ k ≤ t.kids.length ∧ m = .int .i64 (((t.kids.take k).foldl (fun m x => max m (depthN n x)) 0 : Nat) : Int) ∧ Boxed W t A c wr) (fun _ i _ => t.kids.length - (intOf i).toNat)
    case atStart => exact ⟨0, rfl, Nat.zero_le _, rfl, HB.out⟩
    case round =>
      obtain ⟨k, rfl, hkl, rfl, hB⟩ := hrel
      obtain ⟨c0, c1, c2, c3⟩ := hc _ hB
      have hm := fold_le n _ hD (t.kids.take k) 0 (Nat.zero_le _)
      have HB2 := Lib.hid hB
      clear hB HB
      by_cases hk : k < t.kids.length
      · obtain ⟨b, off, A', c', d', hd', rfl, ho, hlt, q0, q1, q2, q3, hkid⟩ := (HT.out.below HB2.out.bel).at_ hk
        have hkc := fun w (hb : Below wr.heap.size wr w) => ih' d' hd' t.kids[k] A' c' w (hkid.below hb)
        go_wp2_with fail
        with_reducible refine (hkc _ (Below.refl _ _)).mono ?_
        rintro en w2 ⟨rfl, hb2⟩
        have HB3 := Lib.hid (HB2.out.later hb2)
        clear hb2 c0 c1 c2 c3 q0 q1 q2 q3 HB2 hkc
        go_wp2_with fail
        go_roundw
        case rel =>
          refine ⟨k + 1, rfl, hk, ?_, HB3.out⟩
          rw [fold_snoc _ _ _ _ hk]
          congr 1
          have := hm
          split <;> omega
        case measure => simp [intOf]; omega
      · have hb := HB2.out.bel
        have hkk : t.kids.take k = t.kids := List.take_of_length_le (by omega)
        rw [hkk] at *
        go_wp2_with fail
        go_ret
        refine ⟨?_, hb⟩
        have hw : wrap64 (((t.kids.foldl (fun m x => max m (depthN n x)) 0 : Nat) : Int) + 1) = ((depthN (n + 1) t : Nat) : Int) := by
          have e : depthN (n + 1) t = t.kids.foldl (fun m x => max m (depthN n x)) 0 + 1 := rfl
          have hm' := fold_le n _ hD t.kids 0 (Nat.zero_le _)
          rw [e]
          generalize t.kids.foldl (fun m x => max m (depthN n x)) 0 = M at *
          unfold wrap64
          omega
        rw [← hw]
        rfl
theorem rdepth_c (ok : Nat → Prop) : ∀ (d n : Nat) (t : Tr) (A : Option Addr) (c : Nat) (W : World), n ≤ 100 → TrAt ok W d A t →
    Calls Tryd.prog 28 #[exV t A c, .int .i64 ((n + 1 : Nat) : Int)] W (Good W (.int .i64 (depthN n t))) := by
  intro d
  induction d with
  | zero => exact fun n t A c W hn hT => rdepth_in ok 0 n t A c W hn hT (fun d' h => absurd h (by omega))
  | succ d ih => exact fun n t A c W hn hT => rdepth_in ok (d + 1) n t A c W hn hT (fun d' h => by cases h; exact ih)
/-- Of how many it is made, counted to left, m + 1 levels deep. -/
def sizeN : Nat → Nat → Tr → Nat
  | 0, _, _ => 1
  | m + 1, left, t => t.kids.foldl (fun n x => if n < left then n + sizeN m (left - n) x else n) 1
theorem sfold_le (m left : Nat) (h : ∀ l x, sizeN m l x ≤ max l 1) (L : List Tr) (z : Nat) (hz : z ≤ max left 1) : L.foldl (fun n x => if n < left then n + sizeN m (left - n) x else n) z ≤ max left 1 := by
  induction L generalizing z with
  | nil => exact hz
  | cons x L ih =>
    refine ih _ ?_
    have := h (left - z) x
    dsimp only
    split <;> omega
theorem sizeN_le (m left : Nat) (t : Tr) : sizeN m left t ≤ max left 1 := by
  induction m generalizing left t with
  | zero => exact Nat.le_max_right _ _
  | succ m ih => exact sfold_le m left (fun l x => ih l x) _ _ (Nat.le_max_right _ _)
theorem sfold_stop (m left : Nat) (L : List Tr) (z : Nat) (hz : left ≤ z) : L.foldl (fun n x => if n < left then n + sizeN m (left - n) x else n) z = z := by
  induction L with
  | nil => rfl
  | cons x L ih => rw [List.foldl_cons, if_neg (by omega)]; exact ih
theorem sfold_full (m left k : Nat) (L : List Tr) (h : ¬ (L.take k).foldl (fun n x => if n < left then n + sizeN m (left - n) x else n) 1 < left) :
    L.foldl (fun n x => if n < left then n + sizeN m (left - n) x else n) 1 = (L.take k).foldl (fun n x => if n < left then n + sizeN m (left - n) x else n) 1 := by
  conv => lhs; rw [← List.take_append_drop k L, List.foldl_append]
  exact sfold_stop m left _ _ (by omega)
set_option maxHeartbeats 2000000 in
set_option maxRecDepth 100000 in
theorem rsize_in (ok : Nat → Prop) (d m left : Nat) (t : Tr) (A : Option Addr) (c : Nat) (W : World) (hm : m ≤ 1000) (hl : left ≤ 1000) (hT : TrAt ok W d A t)
    (ih : ∀ d', d = d' + 1 → ∀ (m left : Nat) (t : Tr) (A : Option Addr) (c : Nat) (W : World), m ≤ 1000 → left ≤ 1000 → TrAt ok W d' A t →
      Calls Tryd.prog 27 #[exV t A c, .int .i64 (left : Int), .int .i64 ((m + 1 : Nat) : Int)] W (Good W (.int .i64 (sizeN m left t)))) :
    Calls Tryd.prog 27 #[exV t A c, .int .i64 (left : Int), .int .i64 ((m + 1 : Nat) : Int)] W (Good W (.int .i64 (sizeN m left t))) := by
  cases m with
  | zero =>
    have hkl := hT.node.kids
    have hb := Boxed.start W t A c
    obtain ⟨c0, c1, c2, c3⟩ := hb.cells
    have HB := Lib.hid hb.bel
    clear hb
    unfold exV exC at *
    go_enter Tryd.func27, Tryd.ntmps27
    go_wp2_with fail
    go_loopw [7, 8] (fun n i wr => n = .int .i64 1 ∧ i = .int .i64 0 ∧ wr = W.alloc (.cells #[.int .i64 t.op, .string t.name, .string t.value, .slice A t.kids.length c] 24)) (fun _ i _ => 0)
    case atStart => exact ⟨rfl, rfl, rfl⟩
    case round =>
      obtain ⟨rfl, rfl, rfl⟩ := hrel
      by_cases hk : (0 : Int) < (t.kids.length : Int)
      · by_cases h1 : (1 : Int) < (left : Int)
        · go_wp2_with fail
          go_ret
          exact ⟨rfl, HB.out⟩
        · go_wp2_with fail
          go_ret
          exact ⟨rfl, HB.out⟩
      · go_wp2_with fail
        go_ret
        exact ⟨rfl, HB.out⟩
  | succ m =>
    have HT := Lib.hid hT
    have HN := Lib.hid hT.node
    have hkl := hT.node.kids
    have ih' := fun d' hd l x A c W hl h => ih d' hd m l x A c W (by omega) hl h
    clear ih hT
    have hc : ∀ w, Boxed W t A c w → _ := fun w h => h.cells
    have HB := Lib.hid (Boxed.start W t A c)
    have hD := sizeN_le m
    have hl1 : (1 : Int) < ((m + 1 + 1 : Nat) : Int) := by omega
    have hl2 : ((m + 1 : Nat) : Int) = ((m + 1 + 1 : Nat) : Int) - 1 := by omega
    have hl3 : ((m + 1 + 1 : Nat) : Int) ≤ 1002 := by omega
    rw [hl2] at ih'
    clear hl2
    generalize ((m + 1 + 1 : Nat) : Int) = z at *
    unfold exV exC at *
    go_enter Tryd.func27, Tryd.ntmps27
    go_wp2
    go_loopw [7, 8] (fun n i wr => ∃ k : Nat, i = .int .i64 k ∧ k ≤ t.kids.length ∧ n = .int .i64 (((t.kids.take k).foldl (fun n x => if n < left then n + sizeN m (left - n) x else n) 1 : Nat) : Int) ∧ Boxed W t A c wr) (fun _ i _ => t.kids.length - (intOf i).toNat)
    case atStart => exact ⟨0, rfl, Nat.zero_le _, rfl, HB.out⟩
    case round =>
      obtain ⟨k, rfl, hkl, rfl, hB⟩ := hrel
      obtain ⟨c0, c1, c2, c3⟩ := hc _ hB
      have hm := sfold_le m left hD (t.kids.take k) 1 (Nat.le_max_right _ _)
      have HB2 := Lib.hid hB
      clear hB HB
      by_cases hk : k < t.kids.length
      · by_cases hlt : (t.kids.take k).foldl (fun n x => if n < left then n + sizeN m (left - n) x else n) 1 < left
        · have HS := Lib.hid (fold_snoc (fun n x => if n < left then n + sizeN m (left - n) x else n) t.kids 1 k hk)
          have hx := hD (left - (t.kids.take k).foldl (fun n x => if n < left then n + sizeN m (left - n) x else n) 1) t.kids[k]
          obtain ⟨b, off, A', c', d', hd', rfl, ho, hlt', q0, q1, q2, q3, hkid⟩ := (HT.out.below HB2.out.bel).at_ hk
          have hkc := fun w (hb : Below wr.heap.size wr w) => ih' d' hd' (left - (t.kids.take k).foldl (fun n x => if n < left then n + sizeN m (left - n) x else n) 1) t.kids[k] A' c' w (by omega) (hkid.below hb)
          have hsub : ((left - (t.kids.take k).foldl (fun n x => if n < left then n + sizeN m (left - n) x else n) 1 : Nat) : Int) = (left : Int) - (((t.kids.take k).foldl (fun n x => if n < left then n + sizeN m (left - n) x else n) 1 : Nat) : Int) := by omega
          rw [hsub] at hkc
          clear hsub
          generalize (t.kids.take k).foldl (fun n x => if n < left then n + sizeN m (left - n) x else n) 1 = M at *
          have hlti : (M : Int) < (left : Int) := by omega
          go_wp2_with fail
          with_reducible refine (hkc _ (Below.refl _ _)).mono ?_
          rintro en w2 ⟨rfl, hb2⟩
          have HB3 := Lib.hid (HB2.out.later hb2)
          clear hb2 c0 c1 c2 c3 q0 q1 q2 q3 HB2 hkc
          go_wp2_with fail
          go_roundw
          case rel =>
            refine ⟨k + 1, rfl, hk, ?_, HB3.out⟩
            rw [HS.out]
            congr 1
            simp only [hlt, if_true]
            omega
          case measure => simp [intOf]; omega
        · have hf := sfold_full m left k t.kids hlt
          have hb := HB2.out.bel
          generalize (t.kids.take k).foldl (fun n x => if n < left then n + sizeN m (left - n) x else n) 1 = M at *
          have hlti : ¬ (M : Int) < (left : Int) := by omega
          go_wp2_with fail
          go_ret
          refine ⟨?_, hb⟩
          rw [show sizeN (m + 1) left t = M from hf]
          rfl
      · have hb := HB2.out.bel
        have hkk : t.kids.take k = t.kids := List.take_of_length_le (by omega)
        rw [hkk] at *
        go_wp2_with fail
        go_ret
        refine ⟨?_, hb⟩
        rfl
theorem rsize_c (ok : Nat → Prop) : ∀ (d m left : Nat) (t : Tr) (A : Option Addr) (c : Nat) (W : World), m ≤ 1000 → left ≤ 1000 → TrAt ok W d A t →
    Calls Tryd.prog 27 #[exV t A c, .int .i64 (left : Int), .int .i64 ((m + 1 : Nat) : Int)] W (Good W (.int .i64 (sizeN m left t))) := by
  intro d
  induction d with
  | zero => exact fun m l t A c W hm hl hT => rsize_in ok 0 m l t A c W hm hl hT (fun d' h => absurd h (by omega))
  | succ d ih => exact fun m l t A c W hm hl hT => rsize_in ok (d + 1) m l t A c W hm hl hT (fun d' h => by cases h; exact ih)
end Go.Proofs.YtmnmgbbdjpfonaaDoor
