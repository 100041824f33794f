/- assign: what is dealt, counted. Plain laws. No condition. -/
import Derived.Test.YthbcklamhoekmaaMbGi
namespace Go.Proofs.Ythbcklamhoekmaa
open Go.RowKit
set_option linter.unusedVariables false
def sumTo (f : Nat → Nat) : Nat → Nat
  | 0 => 0
  | n + 1 => sumTo f n + f n
theorem sumTo_congr {f g : Nat → Nat} : ∀ n, (∀ k, k < n → g k = f k) → sumTo g n = sumTo f n
  | 0, _ => rfl
  | n + 1, h => by rw [sumTo, sumTo, sumTo_congr n (fun k hk => h k (by omega)), h n (by omega)]
theorem sumTo_upd {f g : Nat → Nat} {m c : Nat} (hne : ∀ k, k ≠ m → g k = f k) (hm : g m = f m + c) : ∀ n, m < n → sumTo g n = sumTo f n + c
  | 0, h => absurd h (Nat.not_lt_zero _)
  | n + 1, h => by
    rw [sumTo, sumTo]
    by_cases e : m = n
    · subst e
      rw [sumTo_congr m (fun k hk => hne k (by omega)), hm]
      omega
    · rw [sumTo_upd hne hm n (by omega), hne n (fun x => e x.symm)]
      omega
def cntP (x : TX) (L : List TX) : Nat := L.countP fun y => decide (y = x)
theorem cntP_app (x : TX) (L M : List TX) : cntP x (L ++ M) = cntP x L + cntP x M := List.countP_append
theorem cntP_take {x y : TX} {L : List TX} {k : Nat} (h : L[k]? = some y) : cntP x (L.take (k + 1)) = cntP x (L.take k) + (if y = x then 1 else 0) := by
  unfold cntP
  rw [List.take_add_one, h, Option.toList_some, List.countP_append, List.countP_singleton]
  simp
theorem cntP_prts (s : ByteArray) (p : Nat) : ∀ k, cntP (s, (p : Int)) (prtsG s k) = if p < k then 1 else 0
  | 0 => rfl
  | k + 1 => by
    rw [prtsG_succ, cntP_app, cntP_prts s p k]
    have : cntP (s, (p : Int)) [(s, (k : Int))] = if k = p then 1 else 0 := by
      unfold cntP
      rw [List.countP_singleton]
      by_cases e : k = p
      · subst e; simp
      · rw [if_neg e, if_neg]
        simp
        omega
    rw [this]
    split <;> split <;> split <;> omega
theorem cntP_none {s : ByteArray} {x : TX} (h : x.1 ≠ s) (k : Nat) : cntP x (prtsG s k) = 0 := by
  unfold cntP
  rw [List.countP_eq_zero]
  intro y hy
  unfold prtsG at hy
  obtain ⟨i, _, rfl⟩ := List.mem_map.1 hy
  simp only [decide_eq_true_eq]
  intro e
  exact h (by rw [← e])
theorem prtsG_take (s : ByteArray) (n : Nat) : (prtsG s n).take n = prtsG s n := List.take_of_length_le (by rw [prtsG_len]; exact Nat.le_refl _)
theorem upd_cnt (D : Nat → List TX) {m len : Nat} (hm : m < len) (N : List TX) (x : TX) : sumTo (fun k => cntP x (updD D m (D m ++ N) k)) len = sumTo (fun k => cntP x (D k)) len + cntP x N :=
  sumTo_upd (m := m) (fun k hk => by rw [updD_ne _ _ hk]) (by rw [updD_at, cntP_app]) len hm
theorem upd_len (D : Nat → List TX) {m len : Nat} (hm : m < len) (N : List TX) : sumTo (fun k => (updD D m (D m ++ N) k).length) len = sumTo (fun k => (D k).length) len + N.length :=
  sumTo_upd (m := m) (fun k hk => by rw [updD_ne _ _ hk]) (by rw [updD_at, List.length_append]) len hm
theorem dealK_cnt {L : List Nat} {s : ByteArray} {n len : Nat} {D : Nat → List TX} (hL : ∀ m ∈ L, m < len) (x : TX) : ∀ j, j ≤ L.length → sumTo (fun k => cntP x (dealK L s n D j k)) len = sumTo (fun k => cntP x (D k)) len + cntP x ((prtsG s n).take (offN n L.length j))
  | 0, _ => by rw [offN_zero]; rfl
  | j + 1, hj => by
    have hx : L[j]? = some L[j] := List.getElem?_eq_getElem (by omega)
    have hD : (fun k => cntP x (dealK L s n D (j + 1) k)) = fun k => cntP x (updD (dealK L s n D j) L[j] (dealK L s n D j L[j] ++ chunkN s n L.length j) k) := by rw [dealK_succ hx]
    rw [hD, upd_cnt _ (hL _ (List.getElem_mem _)), dealK_cnt hL x j (by omega), offN_succ, List.take_add, cntP_app, Nat.add_assoc]
    rfl
theorem dealK_sum {L : List Nat} {s : ByteArray} {n len : Nat} {D : Nat → List TX} (hL : ∀ m ∈ L, m < len) : ∀ j, j ≤ L.length → sumTo (fun k => (dealK L s n D j k).length) len = sumTo (fun k => (D k).length) len + offN n L.length j
  | 0, _ => by rw [offN_zero]; rfl
  | j + 1, hj => by
    have hx : L[j]? = some L[j] := List.getElem?_eq_getElem (by omega)
    have hD : (fun k => (dealK L s n D (j + 1) k).length) = fun k => (updD (dealK L s n D j) L[j] (dealK L s n D j L[j] ++ chunkN s n L.length j) k).length := by rw [dealK_succ hx]
    rw [hD, upd_len _ (hL _ (List.getElem_mem _)), dealK_sum hL j (by omega), offN_succ, chunkN_len (by omega : j < L.length)]
    omega
theorem dealK_in {L : List Nat} {s : ByteArray} {n : Nat} {D : Nat → List TX} : ∀ j k x, x ∈ dealK L s n D j k → x ∈ D k ∨ (k ∈ L ∧ x.1 = s)
  | 0, k, x, h => .inl h
  | j + 1, k, x, h => by
    cases hm : L[j]? with
    | none => rw [dealK, hm] at h; exact dealK_in j k x h
    | some m =>
      rw [dealK_succ hm] at h
      by_cases e : k = m
      · subst e
        rw [updD_at] at h
        rcases List.mem_append.1 h with h | h
        · exact dealK_in j k x h
        · refine .inr ⟨List.mem_of_getElem? hm, ?_⟩
          have h1 := List.mem_of_mem_take h
          have h2 := List.mem_of_mem_drop h1
          unfold prtsG at h2
          obtain ⟨i, _, rfl⟩ := List.mem_map.1 h2
          rfl
      · rw [updD_ne _ _ e] at h
        exact dealK_in j k x h
theorem dealP_cnt {L : List Nat} {s : ByteArray} {len : Nat} {st : (Nat → List TX) × Int} (h0 : 0 < L.length) (hL : ∀ m ∈ L, m < len) (x : TX) : ∀ p, sumTo (fun k => cntP x ((dealP L s st p).1 k)) len = sumTo (fun k => cntP x (st.1 k)) len + cntP x (prtsG s p)
  | 0 => rfl
  | p + 1 => by
    have hD : (fun k => cntP x ((dealP L s st (p + 1)).1 k)) = fun k => cntP x (updD (dealP L s st p).1 (behG L (dealP L s st p).2) ((dealP L s st p).1 (behG L (dealP L s st p).2) ++ [(s, (p : Int))]) k) := rfl
    rw [hD, upd_cnt _ (hL _ (behG_mem h0 _)), dealP_cnt h0 hL x p, prtsG_succ, cntP_app, Nat.add_assoc]
theorem dealP_sum {L : List Nat} {s : ByteArray} {len : Nat} {st : (Nat → List TX) × Int} (h0 : 0 < L.length) (hL : ∀ m ∈ L, m < len) : ∀ p, sumTo (fun k => ((dealP L s st p).1 k).length) len = sumTo (fun k => (st.1 k).length) len + p
  | 0 => rfl
  | p + 1 => by
    have hD : (fun k => ((dealP L s st (p + 1)).1 k).length) = fun k => (updD (dealP L s st p).1 (behG L (dealP L s st p).2) ((dealP L s st p).1 (behG L (dealP L s st p).2) ++ [(s, (p : Int))]) k).length := rfl
    rw [hD, upd_len _ (hL _ (behG_mem h0 _)), dealP_sum h0 hL p, Nat.add_assoc]
    rfl
theorem dealP_in {L : List Nat} {s : ByteArray} {st : (Nat → List TX) × Int} (h0 : 0 < L.length) : ∀ p k x, x ∈ (dealP L s st p).1 k → x ∈ st.1 k ∨ (k ∈ L ∧ x.1 = s)
  | 0, k, x, h => .inl h
  | p + 1, k, x, h => by
    rw [dealP] at h
    simp only at h
    by_cases e : k = behG L (dealP L s st p).2
    · subst e
      rw [updD_at] at h
      rcases List.mem_append.1 h with h | h
      · exact dealP_in h0 p _ x h
      · have : x = (s, (p : Int)) := by simpa using h
        subst this
        exact .inr ⟨behG_mem h0 _, rfl⟩
    · rw [updD_ne _ _ e] at h
      exact dealP_in h0 p k x h
/-- What a topic adds. -/
def wtT (S : List SX) (t : TX) : Nat := if (takersG S t.1 S.length).length = 0 then 0 else t.2.toNat
def ctT (S : List SX) (x : TX) (t : TX) : Nat := if (takersG S t.1 S.length).length = 0 then 0 else cntP x (prtsG t.1 t.2.toNat)
/-- All is dealt, and to takers. -/
structure Dealt (S : List SX) (T : List TX) (D : Nat → List TX) : Prop where
  cnt : ∀ x, sumTo (fun k => cntP x (D k)) S.length = (T.map (ctT S x)).sum
  sum : sumTo (fun k => (D k).length) S.length = (T.map (wtT S)).sum
  mem : ∀ k x, x ∈ D k → k ∈ takersG S x.1 S.length
theorem sumTo_zero : ∀ n, sumTo (fun _ => 0) n = 0
  | 0 => rfl
  | n + 1 => by rw [sumTo, sumTo_zero n]
theorem takers_lt (S : List SX) (s : ByteArray) : ∀ m ∈ takersG S s S.length, m < S.length := fun m h => (takersG_mem.1 h).1
theorem range_dealt (S : List SX) : ∀ T : List TX, Dealt S T (rangeD S T) := by
  intro T
  have key : ∀ (T : List TX) (D : Nat → List TX), (∀ k x, x ∈ D k → k ∈ takersG S x.1 S.length) →
      (∀ x, sumTo (fun k => cntP x (T.foldl (stepR S) D k)) S.length = sumTo (fun k => cntP x (D k)) S.length + (T.map (ctT S x)).sum) ∧
      sumTo (fun k => (T.foldl (stepR S) D k).length) S.length = sumTo (fun k => (D k).length) S.length + (T.map (wtT S)).sum ∧
      (∀ k x, x ∈ T.foldl (stepR S) D k → k ∈ takersG S x.1 S.length) := by
    intro T
    induction T with
    | nil => intro D h; exact ⟨fun x => rfl, rfl, h⟩
    | cons t T ih =>
      intro D h
      have hm : ∀ k x, x ∈ stepR S D t k → k ∈ takersG S x.1 S.length := fun k x hx => by
        rcases dealK_in _ k x hx with hx | ⟨h1, h2⟩
        · exact h k x hx
        · rw [h2]; exact h1
      obtain ⟨i1, i2, i3⟩ := ih (stepR S D t) hm
      have hc : ∀ x, sumTo (fun k => cntP x (stepR S D t k)) S.length = sumTo (fun k => cntP x (D k)) S.length + ctT S x t := fun x => by
        have := dealK_cnt (L := takersG S t.1 S.length) (s := t.1) (n := t.2.toNat) (D := D) (takers_lt S t.1) x _ (Nat.le_refl _)
        unfold stepR ctT
        rw [this]
        by_cases h0 : (takersG S t.1 S.length).length = 0
        · rw [if_pos h0, h0, offN_zero]; rfl
        · rw [if_neg h0, offN_all _ _ (by omega), prtsG_take]
      have hs : sumTo (fun k => (stepR S D t k).length) S.length = sumTo (fun k => (D k).length) S.length + wtT S t := by
        have := dealK_sum (L := takersG S t.1 S.length) (s := t.1) (n := t.2.toNat) (D := D) (takers_lt S t.1) _ (Nat.le_refl _)
        unfold stepR wtT
        rw [this]
        by_cases h0 : (takersG S t.1 S.length).length = 0
        · rw [if_pos h0, h0, offN_zero]
        · rw [if_neg h0, offN_all _ _ (by omega)]
      refine ⟨fun x => ?_, ?_, i3⟩
      · rw [List.map_cons, List.sum_cons, List.foldl_cons, i1 x, hc x, Nat.add_assoc]
      · rw [List.map_cons, List.sum_cons, List.foldl_cons, i2, hs, Nat.add_assoc]
  obtain ⟨h1, h2, h3⟩ := key T (fun _ => []) (fun k x hx => by cases hx)
  refine ⟨fun x => ?_, ?_, h3⟩
  · have := h1 x
    rw [show sumTo (fun k => cntP x ((fun _ => []) k)) S.length = 0 from sumTo_zero _, Nat.zero_add] at this
    exact this
  · rw [show sumTo (fun k => ((fun _ => ([] : List TX)) k).length) S.length = 0 from sumTo_zero _, Nat.zero_add] at h2
    exact h2
theorem round_dealt (S : List SX) : ∀ T : List TX, Dealt S T (roundD S T).1 := by
  intro T
  have key : ∀ (T : List TX) (st : (Nat → List TX) × Int), (∀ k x, x ∈ st.1 k → k ∈ takersG S x.1 S.length) →
      (∀ x, sumTo (fun k => cntP x ((T.foldl (stepO S) st).1 k)) S.length = sumTo (fun k => cntP x (st.1 k)) S.length + (T.map (ctT S x)).sum) ∧
      sumTo (fun k => ((T.foldl (stepO S) st).1 k).length) S.length = sumTo (fun k => (st.1 k).length) S.length + (T.map (wtT S)).sum ∧
      (∀ k x, x ∈ (T.foldl (stepO S) st).1 k → k ∈ takersG S x.1 S.length) := by
    intro T
    induction T with
    | nil => intro D h; exact ⟨fun x => rfl, rfl, h⟩
    | cons t T ih =>
      intro st h
      have hm : ∀ k x, x ∈ (stepO S st t).1 k → k ∈ takersG S x.1 S.length := fun k x hx => by
        unfold stepO at hx
        split at hx
        · exact h k x hx
        · rcases dealP_in (by omega) _ k x hx with hx | ⟨h1, h2⟩
          · exact h k x hx
          · rw [h2]; exact h1
      obtain ⟨i1, i2, i3⟩ := ih (stepO S st t) hm
      have hc : ∀ x, sumTo (fun k => cntP x ((stepO S st t).1 k)) S.length = sumTo (fun k => cntP x (st.1 k)) S.length + ctT S x t := fun x => by
        unfold stepO ctT
        by_cases h0 : (takersG S t.1 S.length).length = 0
        · rw [if_pos h0, if_pos h0]; rfl
        · rw [if_neg h0, if_neg h0]
          exact dealP_cnt (by omega) (takers_lt S t.1) x _
      have hs : sumTo (fun k => ((stepO S st t).1 k).length) S.length = sumTo (fun k => (st.1 k).length) S.length + wtT S t := by
        unfold stepO wtT
        by_cases h0 : (takersG S t.1 S.length).length = 0
        · rw [if_pos h0, if_pos h0]; rfl
        · rw [if_neg h0, if_neg h0]
          exact dealP_sum (by omega) (takers_lt S t.1) _
      refine ⟨fun x => ?_, ?_, i3⟩
      · rw [List.map_cons, List.sum_cons, List.foldl_cons, i1 x, hc x, Nat.add_assoc]
      · rw [List.map_cons, List.sum_cons, List.foldl_cons, i2, hs, Nat.add_assoc]
  obtain ⟨h1, h2, h3⟩ := key T (fun _ => [], -1) (fun k x hx => by cases hx)
  refine ⟨fun x => ?_, ?_, h3⟩
  · have := h1 x
    rw [show sumTo (fun k => cntP x (((fun _ => [], -1) : (Nat → List TX) × Int).1 k)) S.length = 0 from sumTo_zero _, Nat.zero_add] at this
    exact this
  · rw [show sumTo (fun k => (((fun _ => ([] : List TX), -1) : (Nat → List TX) × Int).1 k).length) S.length = 0 from sumTo_zero _, Nat.zero_add] at h2
    exact h2
/-- Names that rise are unlike. -/
theorem less_irrefl : ∀ l : List UInt8, Op.bytesLess l l = false
  | [] => rfl
  | a :: l => by simp [Op.bytesLess, less_irrefl l]
theorem less_trans : ∀ a b c : List UInt8, Op.bytesLess a b = true → Op.bytesLess b c = true → Op.bytesLess a c = true
  | a, b, [], _, h2 => by cases b <;> simp [Op.bytesLess] at h2
  | [], b, z :: c, _, _ => rfl
  | a :: x, [], z :: c, h1, _ => by simp [Op.bytesLess] at h1
  | a :: x, b :: y, z :: c, h1, h2 => by
    simp only [Op.bytesLess, Bool.or_eq_true, Bool.and_eq_true, decide_eq_true_eq, beq_iff_eq] at h1 h2 ⊢
    rcases h1 with h1 | ⟨rfl, h1⟩
    · rcases h2 with h2 | ⟨rfl, h2⟩
      · exact .inl (UInt8.lt_trans h1 h2)
      · exact .inl h1
    · rcases h2 with h2 | ⟨rfl, h2⟩
      · exact .inl h2
      · exact .inr ⟨rfl, less_trans x y c h1 h2⟩
theorem rises_far {T : List TX} (h : risesB tL T = true) : ∀ (d i : Nat) (a b : TX), T[i]? = some a → T[i + 1 + d]? = some b → bL a.1 b.1 = true
  | 0, i, a, b, ha, hb => rises_iff.1 h i a b ha hb
  | d + 1, i, a, b, ha, hb => by
    have hl := (List.getElem?_eq_some_iff.1 hb).1
    have hc : T[i + 1 + d]? = some (T[i + 1 + d]'(by omega)) := List.getElem?_eq_getElem (by omega)
    have h1 := rises_far h d i a _ ha hc
    have h2 := rises_iff.1 h (i + 1 + d) _ b hc hb
    exact less_trans _ _ _ h1 h2
theorem names_ne {T : List TX} (h : risesB tL T = true) {i j : Nat} {a b : TX} (ha : T[i]? = some a) (hb : T[j]? = some b) (hne : i ≠ j) : a.1 ≠ b.1 := by
  intro e
  rcases Nat.lt_or_gt_of_ne hne with hlt | hlt
  · have := rises_far h (j - i - 1) i a b ha (by rw [show i + 1 + (j - i - 1) = j by omega]; exact hb)
    unfold bL at this
    rw [e, less_irrefl] at this
    cases this
  · have := rises_far h (i - j - 1) j b a hb (by rw [show j + 1 + (i - j - 1) = i by omega]; exact ha)
    unfold bL at this
    rw [e, less_irrefl] at this
    cases this
theorem sum_zero {f : TX → Nat} : ∀ {T : List TX}, (∀ (j : Nat) (u : TX), T[j]? = some u → f u = 0) → (T.map f).sum = 0
  | [], _ => rfl
  | a :: T, h => by rw [List.map_cons, List.sum_cons, h 0 a rfl, sum_zero (fun j u hu => h (j + 1) u (by simpa using hu))]
theorem sum_one {f : TX → Nat} : ∀ {T : List TX} {i : Nat} {t : TX}, T[i]? = some t → (∀ (j : Nat) (u : TX), j ≠ i → T[j]? = some u → f u = 0) → (T.map f).sum = f t
  | [], _, _, h, _ => by simp at h
  | a :: T, 0, t, h, h0 => by
    have : a = t := by simpa using h
    subst this
    rw [List.map_cons, List.sum_cons, sum_zero (fun j u hu => h0 (j + 1) u (by omega) (by simpa using hu)), Nat.add_zero]
  | a :: T, i + 1, t, h, h0 => by
    rw [List.map_cons, List.sum_cons, h0 0 a (by omega) rfl, Nat.zero_add]
    exact sum_one (by simpa using h) (fun j u hj hu => h0 (j + 1) u (by omega) (by simpa using hu))
theorem ct_one {S : List SX} {T : List TX} (h : risesB tL T = true) {i p : Nat} {t : TX} (hi : T[i]? = some t) (hp : p < t.2.toNat) : (T.map (ctT S (t.1, (p : Int)))).sum = if (takersG S t.1 S.length).length = 0 then 0 else 1 := by
  rw [sum_one hi (fun j u hj hu => ?_)]
  · unfold ctT
    rw [cntP_prts, if_pos hp]
  · unfold ctT
    split
    · rfl
    · exact cntP_none (x := (t.1, (p : Int))) (fun e => names_ne h hi hu (fun x => hj x.symm) e) _
end Go.Proofs.Ythbcklamhoekmaa
