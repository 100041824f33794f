/- expr: what the program counts is what the document counts. Plain laws. -/
import Derived.Test.YtmnmgbbdjpfonaaDoorMtSz
namespace Go.Proofs.YtmnmgbbdjpfonaaDoor
open Go.RowKit
set_option linter.unusedVariables false
/-- No deeper than d below the first. -/
def depD : Nat → Tr → Prop
  | 0, t => t.kids = []
  | d + 1, t => ∀ k ∈ t.kids, depD d k
/-- Of how many it is made. -/
def szD : Nat → Tr → Nat
  | 0, _ => 1
  | d + 1, t => 1 + (t.kids.map (szD d)).sum
theorem TrAt.depD {ok : Nat → Prop} {w : World} : ∀ {d : Nat} {A : Option Addr} {t : Tr}, TrAt ok w d A t → depD d t := by
  intro d
  induction d with
  | zero => exact fun h => List.eq_nil_of_length_eq_zero h.2
  | succ d ih =>
    intro A t h k hk
    obtain ⟨j, hj, rfl⟩ := List.getElem_of_mem hk
    obtain ⟨b, off, A', c', d', e, _, _, _, _, _, _, _, hkid⟩ := h.at_ hj
    cases e
    exact ih hkid
theorem depD_more : ∀ {d : Nat} {t : Tr}, depD d t → depD (d + 1) t := by
  intro d
  induction d with
  | zero => intro t h k hk; rw [show t.kids = [] from h] at hk; cases hk
  | succ d ih => exact fun h k hk => ih (h k hk)
theorem depD_le {d e : Nat} {t : Tr} (h : depD d t) (hle : d ≤ e) : depD e t := by
  induction hle with
  | refl => exact h
  | step _ ih => exact depD_more ih
theorem szD_more : ∀ {d : Nat} {t : Tr}, depD d t → szD (d + 1) t = szD d t := by
  intro d
  induction d with
  | zero => intro t h; simp [szD, show t.kids = [] from h]
  | succ d ih =>
    intro t h
    show 1 + (t.kids.map (szD (d + 1))).sum = 1 + (t.kids.map (szD d)).sum
    rw [List.map_congr_left fun k hk => ih (h k hk)]
theorem szD_le {d e : Nat} {t : Tr} (h : depD d t) (hle : d ≤ e) : szD e t = szD d t := by
  induction hle with
  | refl => rfl
  | step hl ih => rw [szD_more (depD_le h hl), ih]
theorem szD_pos (d : Nat) (t : Tr) : 1 ≤ szD d t := by
  cases d with
  | zero => exact Nat.le_refl _
  | succ d => exact Nat.le_add_right _ _
/-- The document's Size. -/
theorem sizeN_fold (m left : Nat) (L : List Tr) (h : ∀ k ∈ L, ∀ l, 1 ≤ l → sizeN m l k = min l (szD m k)) (z : Nat) (hz : z ≤ left) :
    L.foldl (fun n x => if n < left then n + sizeN m (left - n) x else n) z = min left (z + (L.map (szD m)).sum) := by
  induction L generalizing z with
  | nil => simp; omega
  | cons x L ih =>
    rw [List.foldl_cons, List.map_cons, List.sum_cons]
    have ih' := fun z hz => ih (fun k hk => h k (List.mem_cons_of_mem _ hk)) z hz
    by_cases hlt : z < left
    · rw [if_pos hlt, h x List.mem_cons_self _ (by omega), ih' _ (by omega)]
      omega
    · rw [if_neg hlt, ih' _ hz]
      omega
theorem sizeN_is : ∀ (m left : Nat) (t : Tr), depD m t → 1 ≤ left → sizeN m left t = min left (szD m t) := by
  intro m
  induction m with
  | zero => intro left t _ hl; show 1 = min left 1; omega
  | succ m ih => intro left t h hl; exact sizeN_fold m left t.kids (fun k hk l hl => ih l k (h k hk) hl) 1 hl
/-- The program's Size. -/
theorem sizeV_fold (f : Int → Tr → Bool × Int) (d : Nat) (L : List Tr) (h : ∀ k ∈ L, ∀ s : Int, 0 ≤ s → s < 100 → f s k = (decide (s + szD d k < 100), min (s + szD d k) 100)) (u : Int) (h0 : 0 ≤ u) (h1 : u < 100) :
    kidsG f L u = (decide (u + ((L.map (szD d)).sum : Nat) < 100), min (u + ((L.map (szD d)).sum : Nat)) 100) := by
  induction L generalizing u with
  | nil => simp [kidsG, h1]; omega
  | cons x L ih =>
    have ih' := fun u h0 h1 => ih (fun k hk => h k (List.mem_cons_of_mem _ hk)) u h0 h1
    unfold kidsG at *
    rw [List.foldl_cons, List.map_cons, List.sum_cons]
    simp only [if_true]
    rw [h x List.mem_cons_self u h0 h1]
    by_cases hlt : u + (szD d x : Int) < 100
    · rw [decide_eq_true hlt, show min (u + (szD d x : Int)) 100 = u + szD d x by omega, ih' _ (by omega) hlt]
      congr 1
      · congr 1; apply propext; omega
      · omega
    · rw [decide_eq_false hlt, kidsG_stop _ _ _ rfl]
      congr 1
      · symm; rw [decide_eq_false_iff_not]; omega
      · omega
theorem sizeV_is : ∀ (d : Nat) (t : Tr) (s l : Int), depD d t → 0 ≤ s → s < 100 → walkG sizeV d s t l = (decide (s + szD d t < 100), min (s + szD d t) 100) := by
  intro d
  induction d with
  | zero =>
    intro t s l h h0 h1
    show (decide (s + 1 < 100), s + 1) = (decide (s + ((1 : Nat) : Int) < 100), min (s + ((1 : Nat) : Int)) 100)
    congr 1
    omega
  | succ d ih =>
    intro t s l h h0 h1
    unfold walkG
    have hf := sizeV_fold (fun s k => walkG sizeV d s k (l + 1)) d t.kids (fun k hk s a b => ih k s (l + 1) (h k hk) a b)
    have hz : (szD (d + 1) t : Int) = 1 + ((t.kids.map (szD d)).sum : Nat) := by
      show ((1 + (t.kids.map (szD d)).sum : Nat) : Int) = _
      omega
    rw [hz]
    show (if decide (s + 1 < 100) = true then kidsG _ t.kids (s + 1) else (false, s + 1)) = _
    by_cases hlt : s + 1 < 100
    · rw [decide_eq_true hlt, if_pos rfl, hf _ (by omega) hlt]
      congr 1
      · congr 1; apply propext; omega
      · omega
    · rw [decide_eq_false hlt, if_neg (by simp)]
      congr 1
      · symm; rw [decide_eq_false_iff_not]; omega
      · omega
/-- The document's Depth tells how deep a tree is. -/
theorem fold_ge (n : Nat) (L : List Tr) (z : Nat) : z ≤ L.foldl (fun m x => max m (depthN n x)) z ∧ ∀ k ∈ L, depthN n k ≤ L.foldl (fun m x => max m (depthN n x)) z := by
  induction L generalizing z with
  | nil => exact ⟨Nat.le_refl _, fun k hk => by cases hk⟩
  | cons x L ih =>
    rw [List.foldl_cons]
    obtain ⟨h1, h2⟩ := ih (max z (depthN n x))
    refine ⟨by omega, fun k hk => ?_⟩
    rcases List.mem_cons.1 hk with rfl | hk
    · omega
    · exact h2 k hk
theorem depthN_pos (n : Nat) (t : Tr) : 1 ≤ depthN n t := by
  cases n with
  | zero => exact Nat.le_refl _
  | succ n => exact Nat.le_add_left _ _
theorem depD_of : ∀ (k n : Nat) (t : Tr), depthN n t ≤ k + 1 → k < n → depD k t := by
  intro k
  induction k with
  | zero =>
    intro n t h hn
    cases n with
    | zero => omega
    | succ n =>
      have h1 : t.kids.foldl (fun m x => max m (depthN n x)) 0 + 1 ≤ 0 + 1 := h
      refine List.eq_nil_iff_forall_not_mem.2 fun x hx => ?_
      have := (fold_ge n t.kids 0).2 x hx
      have := depthN_pos n x
      omega
  | succ k ih =>
    intro n t h hn x hx
    cases n with
    | zero => omega
    | succ n =>
      have h1 : t.kids.foldl (fun m x => max m (depthN n x)) 0 + 1 ≤ k + 1 + 1 := h
      have := (fold_ge n t.kids 0).2 x hx
      exact ih n x (by omega) (by omega)
/-- A walk's index may be the tree's own depth. -/
theorem kidsG_congr (f g : Int → Tr → Bool × Int) (L : List Tr) (h : ∀ k ∈ L, ∀ s, f s k = g s k) (s : Int) : kidsG f L s = kidsG g L s := by
  unfold kidsG
  generalize (true, s) = a
  induction L generalizing a with
  | nil => rfl
  | cons x L ih =>
    rw [List.foldl_cons, List.foldl_cons, h x List.mem_cons_self]
    exact ih (fun k hk => h k (List.mem_cons_of_mem _ hk)) _
theorem walkG_more (v : Int → Tr → Int → Bool × Int) : ∀ (d : Nat) (s : Int) (t : Tr) (l : Int), depD d t → walkG v (d + 1) s t l = walkG v d s t l := by
  intro d
  induction d with
  | zero => intro s t l h; rw [walkG_zero v s t l (fun s k => walkG v 0 s k (l + 1)) h]; rfl
  | succ d ih =>
    intro s t l h
    show (if (v s t l).1 then kidsG (fun s k => walkG v (d + 1) s k (l + 1)) t.kids (v s t l).2 else (false, (v s t l).2)) = (if (v s t l).1 then kidsG (fun s k => walkG v d s k (l + 1)) t.kids (v s t l).2 else (false, (v s t l).2))
    rw [kidsG_congr _ _ t.kids (fun k hk s => ih s k (l + 1) (h k hk))]
theorem walkG_le (v : Int → Tr → Int → Bool × Int) {d e : Nat} {t : Tr} (h : depD d t) (hle : d ≤ e) (s l : Int) : walkG v e s t l = walkG v d s t l := by
  induction hle with
  | refl => rfl
  | step hl ih => rw [walkG_more v _ s t l (depD_le h hl), ih]
/-- The program's Check. -/
theorem mayV_fold (f : Int → Tr → Bool × Int) (p : Tr → Bool) (d : Nat) (L : List Tr) (h : ∀ k ∈ L, ∀ s : Int, 0 ≤ s → s ≤ 30 → (f s k).1 = (decide (s + szD d k ≤ 30) && p k) ∧ ((f s k).1 = true → (f s k).2 = s + szD d k)) (u : Int) (h0 : 0 ≤ u) (h1 : u ≤ 30) :
    (kidsG f L u).1 = (decide (u + ((L.map (szD d)).sum : Nat) ≤ 30) && L.all p) ∧ ((kidsG f L u).1 = true → (kidsG f L u).2 = u + ((L.map (szD d)).sum : Nat)) := by
  induction L generalizing u with
  | nil => simp [kidsG, h1]
  | cons x L ih =>
    have ih' := fun u h0 h1 => ih (fun k hk => h k (List.mem_cons_of_mem _ hk)) u h0 h1
    obtain ⟨e1, e2⟩ := h x List.mem_cons_self u h0 h1
    rw [List.map_cons, List.sum_cons, List.all_cons]
    have hc : kidsG f (x :: L) u = L.foldl (fun a k => if a.1 then f a.2 k else a) (f u x) := by simp [kidsG]
    cases hr : (f u x).1 with
    | true =>
      have e3 := e2 hr
      rw [hr] at e1
      have e4 := e1.symm
      rw [Bool.and_eq_true, decide_eq_true_eq] at e4
      have hfx : f u x = (true, u + szD d x) := Prod.ext hr e3
      have hk : kidsG f (x :: L) u = kidsG f L (u + szD d x) := by rw [hc, hfx]; rfl
      obtain ⟨i1, i2⟩ := ih' (u + szD d x) (by omega) e4.1
      rw [hk, e4.2, Bool.true_and, i1]
      refine ⟨?_, fun e => ?_⟩
      · congr 2; apply propext; omega
      · rw [i2 (i1.trans e)]; omega
    | false =>
      have hk : kidsG f (x :: L) u = f u x := by rw [hc, kidsG_stop _ _ _ hr]
      rw [hk, hr]
      refine ⟨?_, fun e => by cases e⟩
      rw [hr] at e1
      symm
      rw [Bool.and_eq_false_iff, decide_eq_false_iff_not]
      rcases Bool.and_eq_false_iff.1 e1.symm with e | e
      · rw [decide_eq_false_iff_not] at e
        exact .inl (by omega)
      · exact .inr (by rw [e]; rfl)
theorem mayV_is : ∀ (d m : Nat) (t : Tr) (s : Int), depD d t → 0 ≤ s → s ≤ 30 → m ≤ 6 →
    (walkG mayV d s t (7 - (m : Int))).1 = (decide (s + szD d t ≤ 30) && partsB m t) ∧ ((walkG mayV d s t (7 - (m : Int))).1 = true → (walkG mayV d s t (7 - (m : Int))).2 = s + szD d t) := by
  intro d
  induction d with
  | zero =>
    intro m t s h h0 h1 hm
    show (decide (s + 1 ≤ 30) && (decide (7 - (m : Int) ≤ 6) && partB t)) = (decide (s + ((1 : Nat) : Int) ≤ 30) && partsB m t) ∧ (_ → s + 1 = s + ((1 : Nat) : Int))
    refine ⟨?_, fun _ => by omega⟩
    congr 1
    cases m with
    | zero => simp [partsB]
    | succ m =>
      have e : decide (7 - ((m + 1 : Nat) : Int) ≤ 6) = true := decide_eq_true (by omega)
      rw [e, Bool.true_and]
      show partB t = (partB t && t.kids.all (partsB m))
      rw [show t.kids = [] from h]
      simp
  | succ d ih =>
    intro m t s h h0 h1 hm
    cases m with
    | zero =>
      have e : walkG mayV (d + 1) s t (7 - ((0 : Nat) : Int)) = (false, s + 1) := by
        unfold walkG
        rw [show (mayV s t (7 - ((0 : Nat) : Int))) = (false, s + 1) by unfold mayV; simp]
        simp
      rw [e]
      refine ⟨?_, fun e => by cases e⟩
      simp [partsB]
    | succ m =>
      have hf := mayV_fold (fun s k => walkG mayV d s k (7 - ((m + 1 : Nat) : Int) + 1)) (partsB m) d t.kids (fun k hk s a b => by
        have := ih m k s (h k hk) a b (by omega)
        rw [show (7 : Int) - (m : Int) = 7 - ((m + 1 : Nat) : Int) + 1 by omega] at this
        exact this)
      have hz : (szD (d + 1) t : Int) = 1 + ((t.kids.map (szD d)).sum : Nat) := by
        show ((1 + (t.kids.map (szD d)).sum : Nat) : Int) = _
        omega
      have hv : mayV s t (7 - ((m + 1 : Nat) : Int)) = (decide (s + 1 ≤ 30) && partB t, s + 1) := by
        unfold mayV
        rw [decide_eq_true (show (7 : Int) - ((m + 1 : Nat) : Int) ≤ 6 by omega), Bool.true_and]
      have hw : walkG mayV (d + 1) s t (7 - ((m + 1 : Nat) : Int)) = if (decide (s + 1 ≤ 30) && partB t) = true then kidsG (fun s k => walkG mayV d s k (7 - ((m + 1 : Nat) : Int) + 1)) t.kids (s + 1) else (false, s + 1) := by
        conv => lhs; unfold walkG
        rw [hv]
      have hp : partsB (m + 1) t = (partB t && t.kids.all (partsB m)) := rfl
      rw [hw, hz, hp]
      by_cases hlt : s + 1 ≤ 30
      · cases hpb : partB t with
        | true =>
          rw [decide_eq_true hlt, Bool.and_self, if_pos rfl]
          obtain ⟨i1, i2⟩ := hf (s + 1) (by omega) hlt
          rw [i1]
          refine ⟨?_, fun e => ?_⟩
          · rw [Bool.true_and]; congr 2; apply propext; omega
          · rw [i2 (i1.trans e)]; omega
        | false =>
          rw [Bool.and_false, if_neg (by simp)]
          exact ⟨by simp, fun e => by cases e⟩
      · rw [decide_eq_false hlt, Bool.false_and, if_neg (by simp)]
        refine ⟨?_, fun e => by cases e⟩
        rw [decide_eq_false (by omega), Bool.false_and]
/-- Of a tree that is not too deep, the program's Size and Check are the document's. -/
theorem depD_small {t : Tr} {k : Nat} (h : depthG t ≤ k + 1) (hk : k < 99) : depD k t := depD_of k 99 t (by unfold depthG at h; omega) hk
theorem size_same {d k : Nat} {t : Tr} (hd : depD d t) (hk : depD k t) (hle : k ≤ 99) : (walkG sizeV d 0 t 1).2 = sizeG t := by
  have h1 : walkG sizeV d 0 t 1 = walkG sizeV k 0 t 1 := by
    rcases Nat.le_total d k with h | h
    · exact (walkG_le sizeV hd h 0 1).symm
    · exact walkG_le sizeV hk h 0 1
  rw [h1, sizeV_is k t 0 1 hk (by omega) (by omega), sizeG_eq, sizeN_is 99 100 t (depD_le hk hle) (by omega), szD_le hk hle]
  simp only
  omega
theorem check_same {d k : Nat} {t : Tr} (hd : depD d t) (hk : depD k t) (hle : k ≤ 99) : (if (walkG mayV d 0 t 1).1 = true then (0 : Int) else 1) = checkG t := by
  have h1 : walkG mayV d 0 t 1 = walkG mayV k 0 t 1 := by
    rcases Nat.le_total d k with h | h
    · exact (walkG_le mayV hd h 0 1).symm
    · exact walkG_le mayV hk h 0 1
  have h2 := (mayV_is k 6 t 0 hk (by omega) (by omega) (by omega)).1
  rw [show (7 : Int) - ((6 : Nat) : Int) = 1 by omega] at h2
  have h3 : sizeG t = ((min 100 (szD k t) : Nat) : Int) := by rw [sizeG_eq, sizeN_is 99 100 t (depD_le hk hle) (by omega), szD_le hk hle]
  rw [h1, h2]
  unfold checkG
  by_cases a : 30 < sizeG t
  · have e : (decide ((0 : Int) + (szD k t : Int) ≤ 30) && partsB 6 t) = false := by rw [decide_eq_false (by omega), Bool.false_and]
    rw [e, if_pos (show 30 < sizeG t ∨ partsB 6 t = false from .inl a)]
    rfl
  · have e : (decide ((0 : Int) + (szD k t : Int) ≤ 30) && partsB 6 t) = partsB 6 t := by rw [decide_eq_true (by omega), Bool.true_and]
    rw [e]
    cases partsB 6 t <;> simp [a]
end Go.Proofs.YtmnmgbbdjpfonaaDoor
