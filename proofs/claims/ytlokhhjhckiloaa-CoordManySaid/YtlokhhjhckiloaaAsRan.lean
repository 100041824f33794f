/- assign: Range, by a contract. No condition. -/
import Derived.Test.YtlokhhjhckiloaaAsSh
namespace Go.Proofs.Ytlokhhjhckiloaa
open Go.RowKit
set_option linter.unusedVariables false
/-- How many of n partitions the j-th of so many takers gets; how many those ahead have got. -/
def rowN (n len j : Nat) : Nat := n / len + (if j < n % len then 1 else 0)
def offN (n len j : Nat) : Nat := j * (n / len) + min j (n % len)
theorem offN_zero (n len : Nat) : offN n len 0 = 0 := by simp [offN]
theorem offN_succ (n len j : Nat) : offN n len (j + 1) = offN n len j + rowN n len j := by
  unfold offN rowN
  rw [Nat.succ_mul]
  split <;> omega
theorem offN_all (n len : Nat) (h : 0 < len) : offN n len len = n := by
  unfold offN
  have := Nat.mod_lt n h
  have h2 := Nat.div_add_mod n len
  rw [Nat.min_eq_right (by omega)]
  omega
theorem offN_le {n len j : Nat} (h : j < len) : offN n len j + rowN n len j ≤ n := by
  have h1 : ∀ a b, a ≤ b → offN n len a ≤ offN n len b := by
    intro a b hab
    unfold offN
    have := Nat.mul_le_mul_right (n / len) hab
    omega
  rw [← offN_succ]
  have := h1 (j + 1) len h
  rw [offN_all n len (by omega)] at this
  exact this
/-- What the j-th taker gets. -/
def chunkN (s : ByteArray) (n len j : Nat) : List TX := ((prtsG s n).drop (offN n len j)).take (rowN n len j)
theorem chunkN_len {s : ByteArray} {n len j : Nat} (h : j < len) : (chunkN s n len j).length = rowN n len j := by
  unfold chunkN
  have := offN_le (n := n) h
  rw [List.length_take, List.length_drop, prtsG_len]
  omega
/-- A topic dealt to the first j takers. -/
def dealK (L : List Nat) (s : ByteArray) (n : Nat) (D : Nat → List TX) : Nat → Nat → List TX
  | 0 => D
  | j + 1 => match L[j]? with
    | some m => updD (dealK L s n D j) m (dealK L s n D j m ++ chunkN s n L.length j)
    | none => dealK L s n D j
theorem dealK_succ {L : List Nat} {s : ByteArray} {n : Nat} {D : Nat → List TX} {j m : Nat} (h : L[j]? = some m) : dealK L s n D (j + 1) = updD (dealK L s n D j) m (dealK L s n D j m ++ chunkN s n L.length j) := by
  rw [dealK, h]
theorem dealK_len {L : List Nat} {s : ByteArray} {n : Nat} {D : Nat → List TX} : ∀ j, j ≤ L.length → ∀ k, (dealK L s n D j k).length ≤ (D k).length + offN n L.length j
  | 0, _, k => by rw [dealK]; omega
  | j + 1, hj, k => by
    rw [dealK_succ (List.getElem?_eq_getElem (by omega : j < L.length)), offN_succ]
    have ih := dealK_len (L := L) (s := s) (n := n) (D := D) j (by omega)
    unfold updD
    split
    · rw [List.length_append, chunkN_len (by omega : j < L.length)]
      subst_vars
      have := ih L[j]
      omega
    · have := ih k
      omega
def stepR (S : List SX) (D : Nat → List TX) (t : TX) : Nat → List TX := dealK (takersG S t.1 S.length) t.1 t.2.toNat D (takersG S t.1 S.length).length
def rangeD (S : List SX) (T : List TX) : Nat → List TX := T.foldl (stepR S) (fun _ => [])
theorem rangeD_succ {S : List SX} {T : List TX} {k : Nat} {t : TX} (h : T[k]? = some t) : rangeD S (T.take (k + 1)) = stepR S (rangeD S (T.take k)) t := by
  unfold rangeD
  rw [List.take_add_one, h, Option.toList_some, List.foldl_append]
  rfl
theorem stepR_len {S : List SX} {D : Nat → List TX} {t : TX} (h : t.2 ≤ 16) (k : Nat) : (stepR S D t k).length ≤ (D k).length + 16 := by
  unfold stepR
  have := dealK_len (L := takersG S t.1 S.length) (s := t.1) (n := t.2.toNat) (D := D) _ (Nat.le_refl _) k
  by_cases h0 : 0 < (takersG S t.1 S.length).length
  · rw [offN_all _ _ h0] at this
    omega
  · rw [show (takersG S t.1 S.length).length = 0 by omega] at this ⊢
    rw [offN_zero] at this
    omega
theorem rangeD_len {S : List SX} {T : List TX} (hT : ∀ t ∈ T, t.2 ≤ 16) : ∀ k, k ≤ T.length → ∀ m, (rangeD S (T.take k) m).length ≤ 16 * k
  | 0, _, m => by simp [rangeD]
  | k + 1, hk, m => by
    have hx : T[k]? = some T[k] := List.getElem?_eq_getElem (by omega)
    rw [rangeD_succ hx]
    have h1 := rangeD_len (S := S) hT k (by omega) m
    have h2 := stepR_len (S := S) (D := rangeD S (T.take k)) (hT _ (List.getElem_mem (by omega : k < T.length))) m
    omega
/-- What Check's OK says. -/
theorem chk_ok {S : List SX} {T : List TX} (h : chkE S T = 0) : mayS S = true ∧ mayT T = true := by
  unfold chkE at h
  split at h
  · rename_i h1
    simpa using h1
  · cases h
theorem chk_cases (S : List SX) (T : List TX) : chkE S T = 0 ∨ chkE S T = 1 := by
  unfold chkE
  split <;> simp
theorem mayS_iff {S : List SX} : mayS S = true ↔ S.length ≤ 20 ∧ (∀ x ∈ S, okS x = true) ∧ risesB sL S = true := by
  unfold mayS
  simp [and_assoc]
theorem mayT_iff {T : List TX} : mayT T = true ↔ T.length ≤ 20 ∧ (∀ x ∈ T, okT x = true) ∧ risesB tL T = true := by
  unfold mayT
  simp [and_assoc]
theorem okT_iff {x : TX} : okT x = true ↔ 1 ≤ x.2 ∧ x.2 ≤ 16 := by
  unfold okT
  simp
theorem map_set_same {R : List (Int × Value)} {m : Nat} {r : Int × Value} (h : R[m]? = some r) (v : Value) : (R.set m (r.1, v)).map (·.1) = R.map (·.1) := by
  apply List.ext_getElem?
  intro k
  simp only [List.getElem?_map, List.getElem?_set]
  split
  · subst_vars
    split
    · rw [h]; rfl
    · rename_i hlt
      rw [List.getElem?_eq_none (by omega)]
  · rfl
end Go.Proofs.Ytlokhhjhckiloaa
