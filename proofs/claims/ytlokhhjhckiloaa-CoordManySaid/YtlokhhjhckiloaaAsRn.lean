/- assign: Round, by a contract. No condition. -/
import Derived.Test.YtlokhhjhckiloaaAsRg
namespace Go.Proofs.Ytlokhhjhckiloaa
open Go.RowKit
set_option linter.unusedVariables false
/-- A topic's first partitions dealt one by one; who was last. -/
def dealP (L : List Nat) (s : ByteArray) (st : (Nat → List TX) × Int) : Nat → (Nat → List TX) × Int
  | 0 => st
  | p + 1 => (updD (dealP L s st p).1 (behG L (dealP L s st p).2) ((dealP L s st p).1 (behG L (dealP L s st p).2) ++ [(s, (p : Int))]), (behG L (dealP L s st p).2 : Int))
def stepO (S : List SX) (st : (Nat → List TX) × Int) (t : TX) : (Nat → List TX) × Int := if (takersG S t.1 S.length).length = 0 then st else dealP (takersG S t.1 S.length) t.1 st t.2.toNat
def roundD (S : List SX) (T : List TX) : (Nat → List TX) × Int := T.foldl (stepO S) (fun _ => [], -1)
theorem roundD_succ {S : List SX} {T : List TX} {k : Nat} {t : TX} (h : T[k]? = some t) : roundD S (T.take (k + 1)) = stepO S (roundD S (T.take k)) t := by
  unfold roundD
  rw [List.take_add_one, h, Option.toList_some, List.foldl_append]
  rfl
theorem dealP_len {L : List Nat} {s : ByteArray} {st : (Nat → List TX) × Int} : ∀ p m, ((dealP L s st p).1 m).length ≤ (st.1 m).length + p
  | 0, m => by rw [dealP]; omega
  | p + 1, m => by
    rw [dealP]
    have ih := dealP_len (L := L) (s := s) (st := st) p
    simp only
    unfold updD
    split
    · rw [List.length_append]
      subst_vars
      have := ih (behG L (dealP L s st p).2)
      simp only [List.length_cons, List.length_nil]
      omega
    · have := ih m
      omega
theorem stepO_len {S : List SX} {st : (Nat → List TX) × Int} {t : TX} (h : t.2 ≤ 16) (m : Nat) : ((stepO S st t).1 m).length ≤ (st.1 m).length + 16 := by
  unfold stepO
  split
  · omega
  · have := dealP_len (L := takersG S t.1 S.length) (s := t.1) (st := st) t.2.toNat m
    omega
theorem roundD_len {S : List SX} {T : List TX} (hT : ∀ t ∈ T, t.2 ≤ 16) : ∀ k, k ≤ T.length → ∀ m, ((roundD S (T.take k)).1 m).length ≤ 16 * k
  | 0, _, m => by simp [roundD]
  | k + 1, hk, m => by
    have hx : T[k]? = some T[k] := List.getElem?_eq_getElem (by omega)
    rw [roundD_succ hx]
    have h1 := roundD_len (S := S) hT k (by omega) m
    have h2 := stepO_len (S := S) (st := roundD S (T.take k)) (hT _ (List.getElem_mem (by omega : k < T.length))) m
    omega
theorem behG_mem {L : List Nat} (h : 0 < L.length) (last : Int) : behG L last ∈ L := by
  unfold behG
  cases hf : L.find? fun (t : Nat) => decide (last < (t : Int)) with
  | none =>
    cases L with
    | nil => simp at h
    | cons a L => simp
  | some x => exact List.mem_of_find?_eq_some hf
theorem tp_new (w : World) (x : TX) : TpIn (w.alloc (.cells #[.string x.1, .int .i64 x.2] 42)) (some ⟨w.heap.size, 0, none⟩) [x] := fun _ => by
  refine ⟨w.heap.size, 0, rfl, (Box.new w 42 #[.string x.1, .int .i64 x.2]).lt, fun j y hy => ?_⟩
  match j, hy with
  | 0, hy =>
    have : x = y := by simpa using hy
    subst this
    exact ⟨((Box.new w 42 #[.string x.1, .int .i64 x.2]).cell 0).trans rfl, ((Box.new w 42 #[.string x.1, .int .i64 x.2]).cell 1).trans rfl⟩
end Go.Proofs.Ytlokhhjhckiloaa
