/- assign: one by one, round about: who is next. Plain laws. No condition. -/
import Derived.Test.YthbcklamhoekmaaAsRr
namespace Go.Proofs.Ythbcklamhoekmaa
open Go.RowKit
set_option linter.unusedVariables false
theorem takersG_sorted (S : List SX) (s : ByteArray) (k : Nat) : (takersG S s k).Pairwise (· < ·) := by
  unfold takersG
  exact List.Pairwise.filter _ List.pairwise_lt_range
theorem find_first {L : List Nat} (hs : L.Pairwise (· < ·)) {m : Nat} (hm : m ∈ L) {last : Int} (h1 : last < (m : Int)) (h2 : ∀ t ∈ L, last < (t : Int) → m ≤ t) : L.find? (fun (t : Nat) => decide (last < (t : Int))) = some m := by
  induction L with
  | nil => cases hm
  | cons a L ih =>
    rw [List.pairwise_cons] at hs
    rw [List.find?_cons]
    by_cases ha : last < (a : Int)
    · rw [decide_eq_true ha]
      have := h2 a (by simp) ha
      rcases List.mem_cons.1 hm with rfl | hm
      · rfl
      · have := hs.1 m hm
        omega
    · rw [decide_eq_false ha]
      rcases List.mem_cons.1 hm with rfl | hm
      · exact absurd h1 ha
      · exact ih hs.2 hm (fun t ht => h2 t (by simp [ht]))
theorem head_first {L : List Nat} (hs : L.Pairwise (· < ·)) {m : Nat} (hm : m ∈ L) (h2 : ∀ t ∈ L, m ≤ t) : L.headD 0 = m := by
  cases L with
  | nil => cases hm
  | cons a L =>
    rw [List.pairwise_cons] at hs
    show a = m
    have := h2 a (by simp)
    rcases List.mem_cons.1 hm with rfl | hm
    · rfl
    · have := hs.1 m hm
      omega
/-- Who was last, as the document counts. -/
def lastOf (len : Nat) (last : Int) : Int := if last = -1 then (len : Int) - 1 else last
theorem lastOf_nat {len : Nat} {last : Int} (hl : 0 < len) (h : last = -1 ∨ (0 ≤ last ∧ last < (len : Int))) : ∃ l : Nat, lastOf len last = (l : Int) ∧ l < len ∧ ((last = -1 ∧ l + 1 = len) ∨ last = (l : Int)) := by
  unfold lastOf
  rcases h with rfl | ⟨h1, h2⟩
  · exact ⟨len - 1, by rw [if_pos rfl]; omega, by omega, .inl ⟨rfl, by omega⟩⟩
  · exact ⟨last.toNat, by rw [if_neg (by omega)]; omega, by omega, .inr (by omega)⟩
theorem next_is {L : List Nat} {len l k : Nat} {last : Int} (hs : L.Pairwise (· < ·)) (hL : ∀ t ∈ L, t < len) (hl : l < len) (hll : (last = -1 ∧ l + 1 = len) ∨ last = (l : Int)) (hk1 : 1 ≤ k) (hk : k ≤ len) (hm : (l + k) % len ∈ L) (hn : ∀ j, 1 ≤ j → j < k → (l + j) % len ∉ L) :
    behG L last = (l + k) % len := by
  have hmod : ∀ j, j ≤ len → (l + j < len → (l + j) % len = l + j) ∧ (len ≤ l + j → (l + j) % len = l + j - len) := fun j hj => ⟨fun h => Nat.mod_eq_of_lt h, fun h => by rw [Nat.mod_eq_sub_mod h]; exact Nat.mod_eq_of_lt (by omega)⟩
  unfold behG
  by_cases hA : l + k < len
  · rw [(hmod k hk).1 hA] at hm ⊢
    have hlast : last = (l : Int) := by rcases hll with ⟨_, h⟩ | h <;> omega
    rw [find_first hs hm (by omega) (fun t ht h1 => ?_)]
    · rfl
    · by_cases hlt : t < l + k
      · exact absurd ht (by
          have := hn (t - l) (by omega) (by omega)
          rwa [(hmod (t - l) (by omega)).1 (by omega), show l + (t - l) = t by omega] at this)
      · omega
  · have hB : len ≤ l + k := by omega
    rw [(hmod k hk).2 hB] at hm ⊢
    have hmin : ∀ t ∈ L, t < len → t < l + 1 → l + k - len ≤ t := fun t ht h1 h2 => by
      by_cases hlt : t < l + k - len
      · exact absurd ht (by
          have := hn (t + len - l) (by omega) (by omega)
          rwa [(hmod (t + len - l) (by omega)).2 (by omega), show l + (t + len - l) - len = t by omega] at this)
      · omega
    rcases hll with ⟨rfl, h⟩ | rfl
    · rw [find_first hs hm (by omega) (fun t ht _ => hmin t ht (hL t ht) (by have := hL t ht; omega))]
      rfl
    · have hup : ∀ t ∈ L, ¬ (l < t) := fun t ht h1 => by
        have h3 := hL t ht
        have := hn (t - l) (by omega) (by omega)
        rw [(hmod (t - l) (by omega)).1 (by omega), show l + (t - l) = t by omega] at this
        exact this ht
      have hnone : L.find? (fun (t : Nat) => decide ((l : Int) < (t : Int))) = none := by
        rw [List.find?_eq_none]
        intro t ht
        have := hup t ht
        simp only [decide_eq_true_eq]
        omega
      rw [hnone]
      show L.headD 0 = _
      exact head_first hs hm fun t ht => hmin t ht (hL t ht) (by have := hup t ht; omega)
theorem some_is {L : List Nat} {len l : Nat} (hL : ∀ t ∈ L, t < len) (hl : l < len) (hn : ∀ j, 1 ≤ j → j ≤ len → (l + j) % len ∉ L) : L.length = 0 := by
  cases L with
  | nil => rfl
  | cons t L =>
    exfalso
    have h1 := hL t (by simp)
    by_cases h : l < t
    · have := hn (t - l) (by omega) (by omega)
      rw [show l + (t - l) = t by omega, Nat.mod_eq_of_lt h1] at this
      exact this (by simp)
    · have := hn (t + len - l) (by omega) (by omega)
      rw [show l + (t + len - l) = t + len by omega, Nat.add_mod_right, Nat.mod_eq_of_lt h1] at this
      exact this (by simp)
/-- So many of a topic's partitions dealt, if there is a taker. -/
def stP (L : List Nat) (s : ByteArray) (st : (Nat → List TX) × Int) (p : Nat) : (Nat → List TX) × Int := if L.length = 0 then st else dealP L s st p
theorem stP_zero (L : List Nat) (s : ByteArray) (st : (Nat → List TX) × Int) : stP L s st 0 = st := by unfold stP; split <;> rfl
theorem stP_none {L : List Nat} (h : L.length = 0) (s : ByteArray) (st : (Nat → List TX) × Int) (p : Nat) : stP L s st p = st := by unfold stP; rw [if_pos h]
theorem stP_some {L : List Nat} (h : 0 < L.length) (s : ByteArray) (st : (Nat → List TX) × Int) (p : Nat) : stP L s st (p + 1) = (updD (stP L s st p).1 (behG L (stP L s st p).2) ((stP L s st p).1 (behG L (stP L s st p).2) ++ [(s, (p : Int))]), (behG L (stP L s st p).2 : Int)) := by
  unfold stP
  rw [if_neg (by omega), if_neg (by omega)]
  rfl
theorem stP_len {L : List Nat} {s : ByteArray} {st : (Nat → List TX) × Int} (p m : Nat) : ((stP L s st p).1 m).length ≤ (st.1 m).length + p := by
  unfold stP
  split
  · omega
  · exact dealP_len p m
theorem stepO_stP (S : List SX) (st : (Nat → List TX) × Int) (s : ByteArray) (n : Nat) : stepO S st (s, (n : Int)) = stP (takersG S s S.length) s st n := rfl
end Go.Proofs.Ythbcklamhoekmaa
