/- assign: how fair dealing is. Plain laws. No condition. -/
import Derived.Test.YtacfhjbgplhjbaaAsWm
import Derived.Test.YtacfhjbgplhjbaaAsRm
namespace Go.Proofs.Ytacfhjbgplhjbaa
open Go.RowKit
set_option linter.unusedVariables false
/-- How many partitions of a topic are among some. -/
def cntN (s : ByteArray) (L : List TX) : Nat := L.countP fun y => decide (y.1 = s)
theorem cntN_app (s : ByteArray) (L M : List TX) : cntN s (L ++ M) = cntN s L + cntN s M := List.countP_append
theorem cntN_take {s : ByteArray} {y : TX} {L : List TX} {k : Nat} (h : L[k]? = some y) : cntN s (L.take (k + 1)) = cntN s (L.take k) + (if y.1 = s then 1 else 0) := by
  unfold cntN
  rw [List.take_add_one, h, Option.toList_some, List.countP_append, List.countP_singleton]
  simp
theorem cntN_same {s : ByteArray} {L : List TX} (h : ∀ x ∈ L, x.1 = s) : cntN s L = L.length := by
  unfold cntN
  rw [List.countP_eq_length]
  exact fun x hx => decide_eq_true (h x hx)
theorem cntN_none {s : ByteArray} {L : List TX} (h : ∀ x ∈ L, x.1 ≠ s) : cntN s L = 0 := by
  unfold cntN
  rw [List.countP_eq_zero]
  exact fun x hx => by simpa using h x hx
theorem chunk_name {s : ByteArray} {n len j : Nat} : ∀ x ∈ chunkN s n len j, x.1 = s := fun x hx => by
  have h2 := List.mem_of_mem_drop (List.mem_of_mem_take hx)
  unfold prtsG at h2
  obtain ⟨i, _, rfl⟩ := List.mem_map.1 h2
  rfl
theorem dealK_row {L : List Nat} {s : ByteArray} {n : Nat} {D : Nat → List TX} (hs : L.Pairwise (· < ·)) {x m : Nat} (hx : L[x]? = some m) : ∀ j, j ≤ L.length → cntN s (dealK L s n D j m) = cntN s (D m) + (if x < j then rowN n L.length x else 0)
  | 0, _ => by rw [if_neg (Nat.not_lt_zero _)]; rfl
  | j + 1, hj => by
    have hjx : L[j]? = some L[j] := List.getElem?_eq_getElem (by omega)
    have ih := dealK_row (n := n) (D := D) (s := s) hs hx j (by omega)
    rw [dealK_succ hjx]
    by_cases e : x = j
    · subst e
      rw [hjx] at hx
      injection hx with hx
      subst hx
      rw [updD_at, cntN_app, ih, if_neg (Nat.lt_irrefl _), if_pos (Nat.lt_succ_self _), cntN_same chunk_name, chunkN_len (by omega : x < L.length)]
      omega
    · have hne : m ≠ L[j] := fun e2 => by
        have hxl := (List.getElem?_eq_some_iff.1 hx).1
        have hxm : L[x] = m := by rw [List.getElem?_eq_getElem hxl] at hx; injection hx
        have hp := List.pairwise_iff_getElem.1 hs
        rcases Nat.lt_or_gt_of_ne e with hlt | hlt
        · have := hp x j hxl (by omega) hlt; omega
        · have := hp j x (by omega) hxl hlt; omega
      rw [updD_ne _ _ hne, ih]
      congr 1
      by_cases h1 : x < j
      · rw [if_pos h1, if_pos (by omega)]
      · rw [if_neg h1, if_neg (by omega)]
theorem dealK_other {L : List Nat} {s s' : ByteArray} (h : s' ≠ s) {n : Nat} {D : Nat → List TX} (m : Nat) : ∀ j, cntN s (dealK L s' n D j m) = cntN s (D m)
  | 0 => rfl
  | j + 1 => by
    cases hm : L[j]? with
    | none => rw [dealK, hm]; exact dealK_other h m j
    | some k =>
      rw [dealK_succ hm]
      by_cases e : m = k
      · subst e
        rw [updD_at, cntN_app, dealK_other h m j, cntN_none (L := chunkN s' n L.length j) (fun x hx => by rw [chunk_name x hx]; exact h), Nat.add_zero]
      · rw [updD_ne _ _ e]
        exact dealK_other h m j
theorem fold_other {S : List SX} {s : ByteArray} (m : Nat) : ∀ (T : List TX) (D : Nat → List TX), (∀ t ∈ T, t.1 ≠ s) → cntN s (T.foldl (stepR S) D m) = cntN s (D m)
  | [], D, _ => rfl
  | t :: T, D, h => by
    rw [List.foldl_cons, fold_other m T _ (fun u hu => h u (by simp [hu]))]
    unfold stepR
    exact dealK_other (h t (by simp)) m _
theorem range_row {S : List SX} {T : List TX} (hr : risesB tL T = true) {i x m : Nat} {t : TX} (hi : T[i]? = some t) (hx : (takersG S t.1 S.length)[x]? = some m) : cntN t.1 (rangeD S T m) = rowN t.2.toNat (takersG S t.1 S.length).length x := by
  have hil := (List.getElem?_eq_some_iff.1 hi).1
  have hxl := (List.getElem?_eq_some_iff.1 hx).1
  have hsplit : T = T.take i ++ t :: T.drop (i + 1) := by
    have h1 : T.drop i = t :: T.drop (i + 1) := by
      rw [List.drop_eq_getElem_cons hil]
      rw [List.getElem?_eq_getElem hil] at hi
      injection hi with hi
      rw [hi]
    rw [← h1, List.take_append_drop]
  have hne : ∀ u, (u ∈ T.take i ∨ u ∈ T.drop (i + 1)) → u.1 ≠ t.1 := by
    rintro u (hu | hu)
    · obtain ⟨j, hj⟩ := List.getElem?_of_mem hu
      rw [List.getElem?_take] at hj
      split at hj
      · exact names_ne hr hj hi (by omega)
      · cases hj
    · obtain ⟨j, hj⟩ := List.getElem?_of_mem hu
      rw [List.getElem?_drop] at hj
      exact names_ne hr hj hi (by omega)
  unfold rangeD
  rw [hsplit, List.foldl_append, List.foldl_cons, fold_other m _ _ (fun u hu => hne u (.inr hu))]
  have h0 := fold_other (S := S) (s := t.1) m (T.take i) (fun _ => []) (fun u hu => hne u (.inl hu))
  have h1 : cntN t.1 ([] : List TX) = 0 := rfl
  rw [h1] at h0
  generalize (T.take i).foldl (stepR S) (fun _ => []) = D0 at *
  unfold stepR
  rw [dealK_row (takersG_sorted S t.1 S.length) hx _ (Nat.le_refl _), if_pos hxl, h0, Nat.zero_add]
theorem rowN_ge (n len x : Nat) : n / len ≤ rowN n len x := by unfold rowN; omega
theorem rowN_le (n len x : Nat) : rowN n len x ≤ n / len + 1 := by unfold rowN; split <;> omega
/-- One by one, where all want all. -/
theorem takers_all {S : List SX} {s : ByteArray} (h : (takersG S s S.length).length = S.length) : takersG S s S.length = List.range S.length := by
  unfold takersG at *
  have h2 : (List.range S.length).length = S.length := List.length_range
  exact List.filter_eq_self.2 (List.length_filter_eq_length_iff.1 (h.trans h2.symm))
theorem beh_range {len : Nat} (h0 : 0 < len) (N : Nat) : behG (List.range len) (if N = 0 then -1 else (((N - 1) % len : Nat) : Int)) = N % len := by
  have hs : (List.range len).Pairwise (· < ·) := List.pairwise_lt_range
  by_cases hN : N = 0
  · subst hN
    rw [if_pos rfl]
    have := next_is (L := List.range len) (len := len) (l := len - 1) (k := 1) (last := -1) hs (fun t ht => List.mem_range.1 ht) (by omega) (.inl ⟨rfl, by omega⟩) (Nat.le_refl _) (by omega) (List.mem_range.2 (Nat.mod_lt _ h0)) (fun j h1 h2 => by omega)
    rw [this, show len - 1 + 1 = len by omega, Nat.mod_self, Nat.zero_mod]
  · rw [if_neg hN]
    have := next_is (L := List.range len) (len := len) (l := (N - 1) % len) (k := 1) (last := (((N - 1) % len : Nat) : Int)) hs (fun t ht => List.mem_range.1 ht) (Nat.mod_lt _ h0) (.inr rfl) (Nat.le_refl _) (by omega) (List.mem_range.2 (Nat.mod_lt _ h0)) (fun j h1 h2 => by omega)
    rw [this, Nat.mod_add_mod, show N - 1 + 1 = N by omega]
theorem rowN_succ {len : Nat} (h0 : 0 < len) (N k : Nat) (hk : k < len) : rowN (N + 1) len k = rowN N len k + (if k = N % len then 1 else 0) := by
  unfold rowN
  have h1 := Nat.div_add_mod N len
  have h2 := Nat.mod_lt N h0
  by_cases hw : N % len + 1 = len
  · have e1 : (N + 1) / len = N / len + 1 ∧ (N + 1) % len = 0 := by
      have : N + 1 = len * (N / len + 1) := by rw [Nat.mul_add]; omega
      rw [this, Nat.mul_div_cancel_left _ h0, Nat.mul_mod_right]
      exact ⟨rfl, rfl⟩
    rw [e1.1, e1.2]
    split <;> split <;> split <;> omega
  · have e1 : (N + 1) / len = N / len ∧ (N + 1) % len = N % len + 1 := by
      have : N + 1 = len * (N / len) + (N % len + 1) := by omega
      constructor
      · rw [this, Nat.mul_add_div h0, Nat.div_eq_of_lt (show N % len + 1 < len by omega), Nat.add_zero]
      · rw [this, Nat.mul_add_mod, Nat.mod_eq_of_lt (show N % len + 1 < len by omega)]
    rw [e1.1, e1.2]
    split <;> split <;> split <;> omega
/-- So far N are dealt round about. -/
def Even (len N : Nat) (st : (Nat → List TX) × Int) : Prop := (∀ k, k < len → (st.1 k).length = rowN N len k) ∧ st.2 = if N = 0 then -1 else (((N - 1) % len : Nat) : Int)
theorem even_deal {len N : Nat} (h0 : 0 < len) {s : ByteArray} {st : (Nat → List TX) × Int} (h : Even len N st) : ∀ p, Even len (N + p) (dealP (List.range len) s st p)
  | 0 => h
  | p + 1 => by
    obtain ⟨h1, h2⟩ := even_deal h0 h p (s := s)
    have hb : behG (List.range len) (dealP (List.range len) s st p).2 = (N + p) % len := by rw [h2]; exact beh_range h0 _
    unfold dealP
    rw [hb]
    refine ⟨fun k hk => ?_, ?_⟩
    · show (updD _ _ _ k).length = _
      rw [show N + (p + 1) = N + p + 1 from rfl, rowN_succ h0 _ _ hk]
      by_cases e : k = (N + p) % len
      · subst e
        rw [updD_at, List.length_append, h1 _ hk, if_pos rfl]
        rfl
      · rw [updD_ne _ _ e, h1 k hk, if_neg e]
        rfl
    · show (((N + p) % len : Nat) : Int) = _
      rw [if_neg (by omega), show N + (p + 1) - 1 = N + p by omega]
theorem even_round {S : List SX} (h0 : 0 < S.length) : ∀ (T : List TX), (∀ t ∈ T, (takersG S t.1 S.length).length = S.length) → (∀ t ∈ T, t.2 ≤ 16) → ∃ N, N ≤ 16 * T.length ∧ Even S.length N (roundD S T) := by
  have key : ∀ (T : List TX) (st : (Nat → List TX) × Int) (N : Nat), (∀ t ∈ T, (takersG S t.1 S.length).length = S.length) → (∀ t ∈ T, t.2 ≤ 16) → Even S.length N st → ∃ M, M ≤ N + 16 * T.length ∧ Even S.length M (T.foldl (stepO S) st) := by
    intro T
    induction T with
    | nil => exact fun st N _ _ h => ⟨N, by simp, h⟩
    | cons t T ih =>
      intro st N hT h16 h
      have ht := hT t (by simp)
      have h16t := h16 t (by simp)
      have hstep : Even S.length (N + t.2.toNat) (stepO S st t) := by
        unfold stepO
        rw [if_neg (by omega), takers_all ht]
        exact even_deal h0 h _
      obtain ⟨M, hM, hE⟩ := ih (stepO S st t) (N + t.2.toNat) (fun u hu => hT u (by simp [hu])) (fun u hu => h16 u (by simp [hu])) hstep
      exact ⟨M, by rw [List.length_cons]; omega, hE⟩
  intro T hT h16
  obtain ⟨M, hM, hE⟩ := key T (fun _ => [], -1) 0 hT h16 ⟨fun k hk => by
    show 0 = rowN 0 S.length k
    unfold rowN
    rw [Nat.zero_div, Nat.zero_mod, if_neg (Nat.not_lt_zero _)], by rw [if_pos rfl]⟩
  exact ⟨M, by omega, hE⟩
/-- Do all want all? -/
def allB (S : List SX) (T : List TX) : Bool := T.all fun t => decide ((takersG S t.1 S.length).length = S.length)
theorem allB_succ {S : List SX} {T : List TX} {i : Nat} {t : TX} (h : T[i]? = some t) : allB S (T.take (i + 1)) = (allB S (T.take i) && decide ((takersG S t.1 S.length).length = S.length)) := by
  unfold allB
  rw [List.take_add_one, h, Option.toList_some, List.all_append]
  simp
/-- Where all want all, no two have unlike many, but for one. -/
theorem fair_round {S : List SX} {T : List TX} (hT : ∀ t ∈ T, t.2 ≤ 16) (hl : T.length ≤ 20) (ha : allB S T = true) : ∃ q, q ≤ 400 ∧ ∀ k, k < S.length → q ≤ ((roundD S T).1 k).length ∧ ((roundD S T).1 k).length ≤ q + 1 := by
  by_cases h0 : 0 < S.length
  · obtain ⟨N, hN, h1, _⟩ := even_round h0 T (fun t ht => by
      unfold allB at ha
      have := List.all_eq_true.1 ha t ht
      simpa using this) hT
    refine ⟨N / S.length, ?_, fun k hk => ?_⟩
    · have := Nat.div_le_self N S.length
      omega
    · rw [h1 k hk]
      exact ⟨rowN_ge _ _ _, rowN_le _ _ _⟩
  · exact ⟨0, by omega, fun k hk => absurd hk (by omega)⟩
end Go.Proofs.Ytacfhjbgplhjbaa
