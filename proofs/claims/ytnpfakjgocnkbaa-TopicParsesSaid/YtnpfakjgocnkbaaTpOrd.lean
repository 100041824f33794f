/- topic: names in their order: plain words. No condition. -/
import Derived.Test.YtnpfakjgocnkbaaTpTw
import Derived.Sort.Walk0
namespace Go.Proofs.Ytnpfakjgocnkbaa
open Go.RowKit Go.Maps Go.ChangeMaps Go.WideMaps Go.WideShapes Go.WideAt
set_option linter.unusedVariables false
theorem before_lt : ∀ a b : List UInt8, bytesBefore a b = true ↔ a < b
  | [], [] => by
    constructor
    · intro h; cases h
    · intro h; exact absurd h (List.not_lt_nil _)
  | [], b :: s => ⟨fun _ => List.nil_lt_cons _ _, fun _ => rfl⟩
  | a :: r, [] => by
    constructor
    · intro h; cases h
    · intro h; exact absurd h (List.not_lt_nil _)
  | a :: r, b :: s => by
    rw [show bytesBefore (a :: r) (b :: s) = (decide (a.toNat < b.toNat) || (a == b && bytesBefore r s)) from rfl, List.cons_lt_cons_iff, ← before_lt r s]
    simp only [Bool.or_eq_true, Bool.and_eq_true, decide_eq_true_eq, beq_iff_eq, UInt8.lt_iff_toNat_lt]
theorem bytes_asymm {a b : List UInt8} (h : bytesBefore a b = true) : bytesBefore b a = false := by
  cases k : bytesBefore b a with
  | false => rfl
  | true => have := bytes_trans' h k; rw [bytes_irrefl] at this; cases this
theorem le_before (a b : List UInt8) : decide (a ≤ b) = !bytesBefore b a := by
  rw [Bool.eq_iff_iff]
  simp only [decide_eq_true_eq, Bool.not_eq_true']
  rw [← List.not_lt, ← before_lt]
  simp
theorem less_before (a b : List UInt8) : Op.bytesLess a b = bytesBefore a b := by
  rw [Go.Proofs.bytesLess_eq, Bool.eq_iff_iff, decide_eq_true_eq, before_lt]
theorem greater_before (n a : ByteArray) : (!Op.bytesLess n.toList a.toList && !(n.toList == a.toList)) = bytesBefore a.data.toList n.data.toList := by
  rw [ByteArray.toList_eq, ByteArray.toList_eq, less_before]
  generalize a.data.toList = x
  generalize n.data.toList = y
  by_cases e : y = x
  · subst e
    rw [bytes_irrefl]
    simp
  · rw [show (y == x) = false by simp [e]]
    rcases bytes_total y x e with h | h
    · rw [h, bytes_asymm h]; rfl
    · rw [h, bytes_asymm h]; rfl
/-- Names that rise are as they are sorted. -/
theorem sort_names {F : List TE} (hs : F.Pairwise fun f g => bytesBefore f.name g.name = true) {ss : List (List UInt8)} (hp : ss.Perm (F.map (·.name))) : ss.mergeSort (fun x y => decide (x ≤ y)) = F.map (·.name) := by
  have hF : (F.map (·.name)).Pairwise fun a b => decide (a ≤ b) = true := by
    rw [List.pairwise_map]
    refine hs.imp fun {a b} h => ?_
    rw [le_before, bytes_asymm h]
    rfl
  refine List.Perm.eq_of_pairwise (le := fun a b => decide (a ≤ b) = true) (fun a b _ _ h k => ?_) (List.pairwise_mergeSort (fun a b c h k => ?_) (fun a b => ?_) ss) hF ((List.mergeSort_perm ss _).trans hp)
  · rw [le_before] at h k
    by_cases e : a = b
    · exact e
    · rcases bytes_total a b e with q | q
      · rw [q] at k; cases k
      · rw [q] at h; cases h
  · rw [decide_eq_true_eq] at *
    exact List.le_trans h k
  · rw [Bool.or_eq_true, decide_eq_true_eq, decide_eq_true_eq]
    exact List.le_total a b
end Go.Proofs.Ytnpfakjgocnkbaa
