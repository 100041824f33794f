/- The names of a disk's files, sorted: they stand as the files do. No condition. -/
import Derived.Test.YtpdimmkacjilgaaDkNames
namespace Go.Proofs.Ytpdimmkacjilgaa
open Go.RowKit Go.Maps Go.ChangeMaps Go.WideMaps Go.Sort Go.Shelf
set_option linter.unusedVariables false
theorem before_lt : ∀ a b : List UInt8, bytesBefore a b = true ↔ a < b
  | [], [] => by
    constructor
    · intro h; cases h
    · intro h; exact absurd h (List.not_lt_nil _)
  | [], b :: s => ⟨fun _ => List.nil_lt_cons _ _, fun _ => rfl⟩
  | a :: r, [] => by
    constructor
    · intro h; cases h
    · intro h; exact absurd h (List.not_lt_nil _)
  | a :: r, b :: s => by
    rw [bytes_cons, List.cons_lt_cons_iff, before_lt r s, ← UInt8.lt_iff_toNat_lt]
theorem bytes_asymm {a b : List UInt8} (h : bytesBefore a b = true) : bytesBefore b a = false := by
  cases k : bytesBefore b a with
  | false => rfl
  | true => have := bytes_trans h k; rw [bytes_irrefl] at this; cases this
theorem le_before (a b : List UInt8) : decide (a ≤ b) = !bytesBefore b a := by
  rw [Bool.eq_iff_iff]
  simp only [decide_eq_true_eq, Bool.not_eq_true']
  rw [← List.not_lt, ← before_lt]
  simp
/-- Names that rise are as they are sorted. -/
theorem sort_names {F : List DF} (hs : F.Pairwise fun f g => bytesBefore f.name g.name = true) {ss : List (List UInt8)} (hp : ss.Perm (F.map (·.name))) : ss.mergeSort (fun x y => decide (x ≤ y)) = F.map (·.name) := by
  have hF : (F.map (·.name)).Pairwise fun a b => decide (a ≤ b) = true := by
    rw [List.pairwise_map]
    refine hs.imp fun {a b} h => ?_
    rw [le_before, bytes_asymm h]
    rfl
  refine List.Perm.eq_of_pairwise (le := fun a b => decide (a ≤ b) = true) (fun a b _ _ h k => ?_) (List.pairwise_mergeSort (fun a b c h k => ?_) (fun a b => ?_) ss) hF ((List.mergeSort_perm ss _).trans hp)
  · rw [le_before] at h k
    rcases bytes_total a b with q | q | q
    · rw [q] at k; cases k
    · exact q
    · rw [q] at h; cases h
  · rw [decide_eq_true_eq] at *
    exact List.le_trans h k
  · rw [Bool.or_eq_true, decide_eq_true_eq, decide_eq_true_eq]
    exact List.le_total a b
/-- What names hands back: the files' names in a row of its own. -/
def NamesAre (W : World) (F : List DF) (e : Ending) (w' : World) : Prop := ∃ v : Value, e = .returned v ∧ w'.ownsRow W.heap.size 9 1 v F.length ((F.map (·.name)).map encStr) ∧ (v = .slice none 0 0 ↔ F = []) ∧ Below W.heap.size W w'
set_option maxHeartbeats 2000000 in
set_option maxRecDepth 100000 in
theorem names_none (p : Nat) (d : DS) (W : World) (h : Rep W p d) (hm : d.map = none) :
    Calls Try.prog 46 #[dp p] W (NamesAre W d.F) := by
  obtain ⟨y0, y1, y2, y3, y4⟩ := h.at
  have hF : d.F = [] := by
    rcases h.map with ⟨_, h2⟩ | ⟨m, h1, _⟩
    · exact h2
    · rw [hm] at h1; cases h1
  rw [hm] at y2
  unfold dp
  clear h
  refine (callsIn_wide (n := 6)).1 ?_
  have hfK : Fence.wide.fn 54 := trivial
  have hfS : Fence.wide.fn 53 := trivial
  refine callsIn_of_wp Try.func46 rfl trivial ?_ rfl
  simp only [Try.ntmps46, List.size_toArray, List.length_cons, List.length_nil, Nat.reduceAdd, Nat.reduceSub, Array.replicate_succ, Array.replicate_zero, List.push_toArray, List.append_toArray, List.nil_append, List.cons_append]
  gi_wp2_with (first
    | (gi_at_call 54; refine (Try.maps_Keys_54 _ _).mono ?_; rintro e w' ⟨rfl, rfl⟩)
    | (gi_at_call 53; refine (Try.slices_Sorted_keys_nil_53_54 W).mono ?_; rintro e w' ⟨v, ss, rfl, hS, hrow, hnil, hb⟩))
  go_ret
  subst hS
  rw [hF]
  refine ⟨v, rfl, ?_, ?_, ((Below.refl _ W).alloc (Nat.le_refl _) _).trans (hb.mono (by simp))⟩
  · have := own_base hrow (base' := W.heap.size) (by simp)
    simpa using this
  · rw [hnil]
    simp
/-- The names, whether there is a map or not. -/
theorem names_c (p : Nat) (d : DS) (W : World) (h : Rep W p d) (hlen : d.F.length ≤ 1000000) :
    Calls Try.prog 46 #[dp p] W (NamesAre W d.F) := by
  cases hm : d.map with
  | none => exact names_none p d W h hm
  | some m =>
    refine (names_some p d W h hlen m hm).mono ?_
    rintro e w' ⟨v, ss, rfl, hS, hrow, hnil, hb⟩
    rw [sort_names h.sorted hS] at hrow
    have hl : ss.length = d.F.length := by rw [hS.length_eq, List.length_map]
    rw [hl] at hrow
    refine ⟨v, rfl, hrow, ?_, hb⟩
    rw [hnil]
    constructor
    · intro e; subst e; simp at hl; exact List.length_eq_zero_iff.1 hl.symm
    · intro e; rw [e] at hl; exact List.length_eq_zero_iff.1 hl
end Go.Proofs.Ytpdimmkacjilgaa
