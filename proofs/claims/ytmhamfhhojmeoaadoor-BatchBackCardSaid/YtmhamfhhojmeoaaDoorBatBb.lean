/- Plain laws of a scan: what stands ahead and behind; what was encoded is scanned; what is cut off is not. No condition. -/
import Derived.Test.YtmhamfhhojmeoaaDoorBatDo
import Derived.Test.YtmhamfhhojmeoaaDoorBatAr2
namespace Go.Proofs.YtmhamfhhojmeoaaDoor
open Go.RowKit
set_option linter.unusedVariables false
theorem bodyG_inv {s : ByteArray} {p : Int} (h : (bodyG s p).2.2 = 0) : 0 ≤ p ∧ p.toNat + 8 + rd4 s p.toNat ≤ s.size ∧ rd4 s p.toNat ≤ 60000 ∧ sumN (s.extract (p.toNat + 8) (p.toNat + 8 + rd4 s p.toNat)) = rd4 s (p.toNat + 4) := by
  unfold bodyG at h
  by_cases h1 : p < 0 ∨ (s.size : Int) < p
  · rw [if_pos h1] at h; exact absurd h (by decide)
  rw [if_neg h1] at h
  by_cases h2 : s.size < p.toNat + 8
  · rw [if_pos h2] at h; exact absurd h (by decide)
  rw [if_neg h2] at h
  by_cases h3 : 60000 < rd4 s p.toNat
  · rw [if_pos h3] at h; exact absurd h (by decide)
  rw [if_neg h3] at h
  by_cases h4 : s.size < p.toNat + 8 + rd4 s p.toNat
  · rw [if_pos h4] at h; exact absurd h (by decide)
  rw [if_neg h4] at h
  by_cases h5 : sumN (s.extract (p.toNat + 8) (p.toNat + 8 + rd4 s p.toNat)) ≠ rd4 s (p.toNat + 4)
  · rw [if_pos h5] at h; exact absurd h (by decide)
  exact ⟨by omega, by omega, by omega, by simpa using h5⟩
theorem bodyG_mk {s : ByteArray} {p : Int} (h0 : 0 ≤ p) (h1 : p.toNat + 8 + rd4 s p.toNat ≤ s.size) (h2 : rd4 s p.toNat ≤ 60000) (h3 : sumN (s.extract (p.toNat + 8) (p.toNat + 8 + rd4 s p.toNat)) = rd4 s (p.toNat + 4)) :
    bodyG s p = (s.extract (p.toNat + 8) (p.toNat + 8 + rd4 s p.toNat), ((p.toNat + 8 + rd4 s p.toNat : Nat) : Int), 0) := by
  unfold bodyG
  rw [if_neg (by omega), if_neg (by omega), if_neg (by omega), if_neg (by omega), if_neg (by simpa using h3)]
theorem sub_congr {l m : List UInt8} {n a k : Nat} (h : l.take n = m.take n) (hk : a + k ≤ n) : (l.drop a).take k = (m.drop a).take k := by
  have e : ∀ x : List UInt8, (x.drop a).take k = ((x.take n).drop a).take k := fun x => by
    rw [List.drop_take, List.take_take, Nat.min_eq_left (by omega)]
  rw [e l, e m, h]
theorem rd4_congr {s u : ByteArray} {n a : Nat} (h : u.data.toList.take n = s.data.toList.take n) (hk : a + 4 ≤ n) : rd4 u a = rd4 s a := by
  unfold rd4
  rw [sub_congr h hk]
theorem ext_congr {s u : ByteArray} {n i j : Nat} (h : u.data.toList.take n = s.data.toList.take n) (hk : j ≤ n) (hij : i ≤ j) : u.extract i j = s.extract i j := by
  apply ByteArray.ext
  apply Array.ext'
  rw [extract_list, extract_list, sub_congr h (by omega)]
theorem bodyG_pre {s u : ByteArray} {p : Int} {n : Nat} (hu : n ≤ u.size) (h : u.data.toList.take n = s.data.toList.take n) (h0 : (bodyG s p).2.2 = 0) (hq : (bodyG s p).2.1 ≤ n) : bodyG u p = bodyG s p := by
  obtain ⟨a, b, c, d⟩ := bodyG_inv h0
  have e := bodyG_mk a b c d
  rw [e] at hq ⊢
  have hq' : p.toNat + 8 + rd4 s p.toNat ≤ n := by
    have : ((p.toNat + 8 + rd4 s p.toNat : Nat) : Int) ≤ n := hq
    omega
  have e1 : rd4 u p.toNat = rd4 s p.toNat := rd4_congr h (by omega)
  have e2 : rd4 u (p.toNat + 4) = rd4 s (p.toNat + 4) := rd4_congr h (by omega)
  have e3 : u.extract (p.toNat + 8) (p.toNat + 8 + rd4 s p.toNat) = s.extract (p.toNat + 8) (p.toNat + 8 + rd4 s p.toNat) := ext_congr h hq' (by omega)
  rw [bodyG_mk a (by rw [e1]; omega) (by rw [e1]; exact c) (by rw [e1, e2, e3]; exact d), e1, e3]
theorem decG_err' {s : ByteArray} {p e : Int} (h : (bodyG s p).2.2 = e) (he : e ≠ 0) : decG s p = (zeroN, [], 0, e) := by
  unfold decG
  rw [if_pos (by rw [h]; exact he), h]
theorem decG_congr {s u : ByteArray} {p q : Int} (h : bodyG u q = bodyG s p) : decG u q = decG s p := by unfold decG; rw [h]
theorem decG_body {s : ByteArray} {p : Int} (h : (decG s p).2.2.2 = 0) : (bodyG s p).2.2 = 0 ∧ (decG s p).2.2.1 = (bodyG s p).2.1 := by
  unfold decG at h ⊢
  split at h
  · rename_i h1; exact absurd h h1
  · rename_i h1
    rw [if_neg h1]
    split at h
    · rename_i h2
      rw [if_pos h2]
      exact ⟨by simpa using h1, rfl⟩
    · simp at h
theorem decG_pre {s u : ByteArray} {p : Int} {n : Nat} (hu : n ≤ u.size) (h : u.data.toList.take n = s.data.toList.take n) (h0 : (decG s p).2.2.2 = 0) (hq : (decG s p).2.2.1 ≤ n) : decG u p = decG s p := by
  obtain ⟨h1, h2⟩ := decG_body h0
  exact decG_congr (bodyG_pre hu h h1 (by rw [← h2]; exact hq))
/- Behind another text. -/
theorem drop_behind (a t : ByteArray) (p : Nat) : (a ++ t).data.toList.drop (a.size + p) = t.data.toList.drop p := by
  have hl : a.data.toList.length = a.size := rfl
  rw [ByteArray.data_append, Array.toList_append, ← List.drop_drop, List.drop_left' hl]
theorem rd4_behind (a t : ByteArray) (p : Nat) : rd4 (a ++ t) (a.size + p) = rd4 t p := by
  unfold rd4
  rw [drop_behind]
theorem ext_behind (a t : ByteArray) (i j : Nat) : (a ++ t).extract (a.size + i) (a.size + j) = t.extract i j := by
  apply ByteArray.ext
  apply Array.ext'
  rw [extract_list, extract_list, drop_behind, Nat.add_sub_add_left]
theorem decG_behind (a t : ByteArray) (p : Nat) : ((decG t p).2.2.2 = 0 → decG (a ++ t) ((a.size + p : Nat) : Int) = ((decG t p).1, (decG t p).2.1, (a.size : Int) + (decG t p).2.2.1, 0)) ∧ ((decG t p).2.2.2 ≠ 0 → (decG (a ++ t) ((a.size + p : Nat) : Int)).2.2.2 ≠ 0) := by
  have hz : (a ++ t).size = a.size + t.size := ByteArray.size_append
  have hb : bodyG (a ++ t) ((a.size + p : Nat) : Int) = if (bodyG t p).2.2 = 0 then ((bodyG t p).1, (a.size : Int) + (bodyG t p).2.1, 0) else ((bodyG t p).1, (bodyG t p).2.1, (bodyG t p).2.2) := by
    have e1 := rd4_behind a t p
    have e2 := rd4_behind a t (p + 4)
    have e3 := ext_behind a t (p + 8) (p + 8 + rd4 t p)
    rw [← Nat.add_assoc] at e2
    rw [← Nat.add_assoc, ← Nat.add_assoc, ← Nat.add_assoc] at e3
    unfold bodyG
    simp only [Int.toNat_natCast]
    rw [e1, e2, e3, hz]
    by_cases h1 : ((p : Nat) : Int) < 0 ∨ (t.size : Int) < ((p : Nat) : Int)
    · rw [if_pos h1, if_pos (by omega)]; rfl
    rw [if_neg h1, if_neg (by omega)]
    by_cases h2 : t.size < p + 8
    · rw [if_pos h2, if_pos (by omega)]; rfl
    rw [if_neg h2, if_neg (by omega)]
    by_cases h3 : 60000 < rd4 t p
    · rw [if_pos h3, if_pos h3]; rfl
    rw [if_neg h3, if_neg h3]
    by_cases h4 : t.size < p + 8 + rd4 t p
    · rw [if_pos h4, if_pos (by omega)]; rfl
    rw [if_neg h4, if_neg (by omega)]
    by_cases h5 : sumN (t.extract (p + 8) (p + 8 + rd4 t p)) ≠ rd4 t (p + 4)
    · rw [if_pos h5, if_pos h5]; rfl
    rw [if_neg h5, if_neg h5, if_pos rfl]
    refine Prod.ext rfl (Prod.ext ?_ rfl)
    show ((a.size + p + 8 + rd4 t p : Nat) : Int) = (a.size : Int) + ((p + 8 + rd4 t p : Nat) : Int)
    omega
  unfold decG
  rw [hb]
  by_cases h : (bodyG t p).2.2 = 0
  · rw [if_pos h, h]
    simp only [ne_eq, not_true, if_false]
    by_cases hu : unpB (bodyG t p).1 = true
    · simp only [if_pos hu]
      exact ⟨fun _ => trivial, fun h => absurd trivial h⟩
    · simp only [if_neg hu]
      exact ⟨fun h => absurd h (by decide), fun _ => (by decide : (3 : Int) ≠ 0)⟩
  · rw [if_neg h]
    simp only
    rw [if_pos h]
    exact ⟨fun h' => absurd h' h, fun h' => h'⟩
/- A scan. -/
theorem scanG_no {s : ByteArray} {p : Int} (h : (decG s p).2.2.2 ≠ 0) (m : Nat) : scanG s m p = ([], p) := by
  cases m with
  | zero => rfl
  | succ m => unfold scanG; rw [if_pos h]
theorem scanG_yes {s : ByteArray} {p : Int} (h : (decG s p).2.2.2 = 0) (m : Nat) : scanG s (m + 1) p = (((decG s p).1, (decG s p).2.1) :: (scanG s m (decG s p).2.2.1).1, (scanG s m (decG s p).2.2.1).2) := by
  show (if _ then _ else _) = _
  rw [if_neg (by simpa using h)]
theorem scanG_fuel {s : ByteArray} : ∀ (m m' : Nat) (p : Int), 0 ≤ p → s.size < m + p.toNat → s.size < m' + p.toNat → scanG s m p = scanG s m' p
  | m, m', p, h0, hm, hm' => by
    by_cases h : (decG s p).2.2.2 = 0
    · obtain ⟨u0, u1, u2⟩ := decG_up h
      match m, m' with
      | 0, _ => exfalso; omega
      | _ + 1, 0 => exfalso; omega
      | m + 1, m' + 1 =>
        rw [scanG_yes h, scanG_yes h, scanG_fuel m m' (decG s p).2.2.1 (by omega) (by omega) (by omega)]
    · rw [scanG_no h, scanG_no h]
termination_by m => m
theorem scanG_end {s : ByteArray} : ∀ (m : Nat) (p : Int), p ≤ (scanG s m p).2 ∧ (p ≤ s.size → (scanG s m p).2 ≤ s.size)
  | 0, p => ⟨Int.le_refl _, fun h => h⟩
  | m + 1, p => by
    by_cases h : (decG s p).2.2.2 = 0
    · obtain ⟨u0, u1, u2⟩ := decG_up h
      rw [scanG_yes h]
      obtain ⟨i1, i2⟩ := scanG_end (s := s) m (decG s p).2.2.1
      have := i2 u2
      simp only
      omega
    · rw [scanG_no h]
      exact ⟨Int.le_refl _, fun h => h⟩
theorem scanG_join {s u : ByteArray} : ∀ (m : Nat) (p : Int) (M : Nat), 0 ≤ p → (scanG s m p).2.toNat ≤ u.size → u.data.toList.take (scanG s m p).2.toNat = s.data.toList.take (scanG s m p).2.toNat → u.size < M + p.toNat →
    scanG u M p = ((scanG s m p).1 ++ (scanG u M (scanG s m p).2).1, (scanG u M (scanG s m p).2).2)
  | 0, p, M, h0, hn, he, hM => rfl
  | m + 1, p, M, h0, hn, he, hM => by
    by_cases h : (decG s p).2.2.2 = 0
    · obtain ⟨u0, u1, u2⟩ := decG_up h
      rw [scanG_yes h] at hn he ⊢
      simp only at hn he ⊢
      obtain ⟨i1, i2⟩ := scanG_end (s := s) m (decG s p).2.2.1
      have i3 := i2 u2
      have hd : decG u p = decG s p := decG_pre hn he h (by omega)
      have ih := fun M' h1 => scanG_join (s := s) (u := u) m (decG s p).2.2.1 M' (by omega) hn he h1
      have hsz : (decG s p).2.2.1 ≤ u.size := by omega
      match M, hM with
      | 0, hM => exfalso; omega
      | M + 1, hM =>
        rw [scanG_yes (by rw [hd]; exact h), hd, ih M (by omega)]
        rw [scanG_fuel (s := u) M (M + 1) (scanG s m (decG s p).2.2.1).2 (by omega) (by omega) (by omega)]
        rfl
    · rw [scanG_no h]
      simp
theorem scanG_behind (a t : ByteArray) : ∀ (m : Nat) (p : Nat), scanG (a ++ t) m ((a.size + p : Nat) : Int) = ((scanG t m p).1, (a.size : Int) + (scanG t m p).2)
  | 0, p => by
    show (([] : List (BN × List Rec)), _) = _
    refine Prod.ext rfl ?_
    show ((a.size + p : Nat) : Int) = (a.size : Int) + (p : Int)
    omega
  | m + 1, p => by
    obtain ⟨hy, hn⟩ := decG_behind a t p
    by_cases h : (decG t p).2.2.2 = 0
    · obtain ⟨u0, u1, u2⟩ := decG_up h
      have hd := hy h
      rw [scanG_yes h, scanG_yes (by rw [hd]), hd]
      simp only
      obtain ⟨q, hq⟩ : ∃ q : Nat, (decG t p).2.2.1 = q := ⟨(decG t p).2.2.1.toNat, by omega⟩
      rw [hq]
      have := scanG_behind a t m q
      rw [show ((a.size + q : Nat) : Int) = (a.size : Int) + (q : Int) by omega] at this
      rw [this]
    · rw [scanG_no h, scanG_no (hn h)]
      refine Prod.ext rfl ?_
      show ((a.size + p : Nat) : Int) = (a.size : Int) + (p : Int)
      omega
/-- A scan goes on behind whole batches. -/
theorem scanG_on {s t : ByteArray} {R : List (BN × List Rec)} {n : Nat} (h : scanG s (s.size + 1) 0 = (R, (n : Int))) :
    scanG (s.extract 0 n ++ t) ((s.extract 0 n ++ t).size + 1) 0 = (R ++ (scanG t (t.size + 1) 0).1, (n : Int) + (scanG t (t.size + 1) 0).2) := by
  have he := scanG_end (s := s) (s.size + 1) 0
  have h2 : (scanG s (s.size + 1) 0).2 = n := by rw [h]
  have h1 : (scanG s (s.size + 1) 0).1 = R := by rw [h]
  have hn : n ≤ s.size := by have := he.2 (by omega); rw [h2] at this; omega
  have hz : (s.extract 0 n).size = n := by rw [ByteArray.size_extract]; omega
  have hz2 : (s.extract 0 n ++ t).size = n + t.size := by rw [ByteArray.size_append, hz]
  have ht : (s.extract 0 n ++ t).data.toList.take n = s.data.toList.take n := by
    rw [ByteArray.data_append, Array.toList_append, List.take_left' (by show (s.extract 0 n).size = n; exact hz), extract_list]
    simp
  have hj := scanG_join (s := s) (u := s.extract 0 n ++ t) (s.size + 1) 0 ((s.extract 0 n ++ t).size + 1) (by omega) (by rw [h2]; omega) (by rw [h2]; exact ht) (by omega)
  rw [h1, h2] at hj
  rw [hj]
  have hb := scanG_behind (s.extract 0 n) t ((s.extract 0 n ++ t).size + 1) 0
  rw [hz] at hb
  simp only [Nat.add_zero] at hb
  rw [hb, show ((0 : Nat) : Int) = 0 from rfl, scanG_fuel (s := t) ((s.extract 0 n ++ t).size + 1) (t.size + 1) 0 (by omega) (by omega) (by omega)]
/- What was encoded. -/
theorem bv_be4 (n : Nat) (h : n < 4294967296) : bv (be 4 n) = n := by
  have key : ∀ (w n : Nat), n < 256 ^ w → bv (be w n) = n := by
    intro w
    induction w with
    | zero => intro n h; have : n = 0 := by simpa using h
              subst this; rfl
    | succ w ih =>
      intro n h
      rw [be, bv_snoc, ih _ (by rw [Nat.pow_succ] at h; omega)]
      have : (UInt8.ofNat (n % 256)).toNat = n % 256 := ofNat_toNat (Nat.mod_lt _ (by decide))
      omega
  exact key 4 n (by omega)
theorem wrap_body (t r : ByteArray) (h : t.size ≤ 60000) : bodyG (wrapB t ++ r) 0 = (t, ((wrapB t).size : Int), 0) := by
  have hw : (wrapB t).data.toList = be 4 t.size ++ be 4 (sumN t) ++ t.data.toList := by unfold wrapB w4; simp
  have hd : (wrapB t ++ r).data.toList = be 4 t.size ++ (be 4 (sumN t) ++ (t.data.toList ++ r.data.toList)) := by
    rw [ByteArray.data_append, Array.toList_append, hw]
    simp
  have hz : (wrapB t ++ r).size = 8 + t.size + r.size := by rw [ByteArray.size_append, wrapB_size]
  have e0 : rd4 (wrapB t ++ r) 0 = t.size := by
    unfold rd4
    rw [hd, List.drop_zero, List.take_left' (be_len 4 _), bv_be4 _ (by omega)]
  have e4 : rd4 (wrapB t ++ r) (0 + 4) = sumN t := by
    unfold rd4
    rw [hd, List.drop_left' (be_len 4 _), List.take_left' (be_len 4 _), bv_be4 _ (sumN_lt t)]
  have eb : (wrapB t ++ r).extract (0 + 8) (0 + 8 + t.size) = t := by
    apply ByteArray.ext
    apply Array.ext'
    rw [extract_list, hd, ← List.append_assoc, List.drop_left' (by simp [be_len]), List.take_left' (by show t.size = _; omega)]
  have := bodyG_mk (s := wrapB t ++ r) (p := 0) (by omega) (by show 0 + 8 + rd4 (wrapB t ++ r) 0 ≤ _; rw [e0]; omega) (by show rd4 (wrapB t ++ r) 0 ≤ _; rw [e0]; exact h) (by show sumN ((wrapB t ++ r).extract (0 + 8) (0 + 8 + rd4 (wrapB t ++ r) 0)) = rd4 (wrapB t ++ r) (0 + 4); rw [e0, e4, eb])
  rw [this]
  show ((wrapB t ++ r).extract (0 + 8) (0 + 8 + rd4 (wrapB t ++ r) 0), ((0 + 8 + rd4 (wrapB t ++ r) 0 : Nat) : Int), (0 : Int)) = _
  rw [e0, eb, wrapB_size, Nat.zero_add]
theorem wrap_dec {b : BN} {L : List RX} (h : batB b L = true) (r : ByteArray) : decG (encB b L ++ r) 0 = (b, L.map (·.1), ((encB b L).size : Int), 0) := by
  obtain ⟨h1, h2, h3⟩ := unp_back h
  have he : encB b L = wrapB (bodyB b L) := by unfold encB; rw [if_pos h]
  rw [he]
  unfold decG
  rw [wrap_body _ r (batB_size h)]
  simp only [ne_eq, not_true, if_false]
  rw [if_pos h1, h2, h3]
theorem encB_size {b : BN} {L : List RX} (h : batB b L = true) : 8 ≤ (encB b L).size ∧ (encB b L).size ≤ 60008 := by
  have he : encB b L = wrapB (bodyB b L) := by unfold encB; rw [if_pos h]
  rw [he, wrapB_size]
  have := batB_size h
  omega
theorem dec_short {s : ByteArray} {p : Int} (h : (s.size : Int) < p + 8) : (decG s p).2.2.2 ≠ 0 := fun e => by
  obtain ⟨u0, u1, u2⟩ := decG_up e
  omega
theorem scan_enc {s : ByteArray} {R : List (BN × List Rec)} (h : scanG s (s.size + 1) 0 = (R, (s.size : Int))) {b : BN} {L : List RX} (hb : batB b L = true) :
    scanG (s ++ encB b L) ((s ++ encB b L).size + 1) 0 = (R ++ [(b, L.map (·.1))], ((s ++ encB b L).size : Int)) := by
  have ho := scanG_on (t := encB b L) h
  rw [show s.extract 0 s.size = s by simp] at ho
  rw [ho]
  have hd := wrap_dec hb ByteArray.empty
  rw [ByteArray.append_empty] at hd
  have hs : scanG (encB b L) ((encB b L).size + 1) 0 = ([(b, L.map (·.1))], ((encB b L).size : Int)) := by
    rw [scanG_yes (by rw [hd]), hd]
    simp only
    rw [scanG_no (dec_short (by omega))]
  rw [hs, ByteArray.size_append]
  simp
theorem wrap_cut {t : ByteArray} {k : Nat} (h : t.size ≤ 60000) (hk : k < (wrapB t).size) : (bodyG ((wrapB t).extract 0 k) 0).2.2 ≠ 0 := fun e => by
  obtain ⟨a, b, c, d⟩ := bodyG_inv e
  rw [wrapB_size] at hk
  have hz : ((wrapB t).extract 0 k).size = k := by rw [ByteArray.size_extract, wrapB_size]; omega
  rw [hz] at b
  change 0 + 8 + rd4 ((wrapB t).extract 0 k) 0 ≤ k at b
  have e0 : rd4 ((wrapB t).extract 0 k) 0 = t.size := by
    have hw : (wrapB t).data.toList = be 4 t.size ++ (be 4 (sumN t) ++ t.data.toList) := by unfold wrapB w4; simp
    unfold rd4
    rw [List.drop_zero, extract_list, List.drop_zero, List.take_take, Nat.min_eq_left (by omega), hw, List.take_left' (be_len 4 _), bv_be4 _ (by omega)]
  omega
theorem scan_cut {s : ByteArray} {R : List (BN × List Rec)} (h : scanG s (s.size + 1) 0 = (R, (s.size : Int))) {b : BN} {L : List RX} (hb : batB b L = true) {k : Nat} (hk : k < (encB b L).size) :
    scanG (s ++ (encB b L).extract 0 k) ((s ++ (encB b L).extract 0 k).size + 1) 0 = (R, (s.size : Int)) := by
  have ho := scanG_on (t := (encB b L).extract 0 k) h
  rw [show s.extract 0 s.size = s by simp] at ho
  rw [ho]
  have he : encB b L = wrapB (bodyB b L) := by unfold encB; rw [if_pos hb]
  have hn : (decG ((encB b L).extract 0 k) 0).2.2.2 ≠ 0 := by
    rw [he] at hk ⊢
    have hc := wrap_cut (batB_size hb) hk
    rw [decG_err' rfl hc]
    exact hc
  rw [scanG_no hn]
  simp
end Go.Proofs.YtmhamfhhojmeoaaDoor
/- The law BatchJoined walks to true. Condition: the table of sums. -/
namespace Go.Proofs.YtmhamfhhojmeoaaDoor
open Go.RowKit
set_option linter.unusedVariables false
theorem batsC_one (L : List BX) : ∀ u ∈ batsC L, u.oneCell' = true := by
  intro u hu
  unfold batsC at hu
  obtain ⟨x, _, hx⟩ := List.mem_flatMap.1 hu
  exact bat_one x.1 x.2.2.1 x.2.1.length x.2.2.2 u hx
theorem batsC_len : ∀ L : List BX, (batsC L).length = L.length * 6
  | [] => rfl
  | x :: l => by
    show ((bnC x.1 (.slice x.2.2.1 x.2.1.length x.2.2.2)).toList ++ batsC l).length = _
    rw [List.length_append, batsC_len l, List.length_cons]
    show 6 + l.length * 6 = _
    omega
theorem batsC_app (L M : List BX) : batsC (L ++ M) = batsC L ++ batsC M := by simp [batsC]
/-- A row of batches whose records are somewhere. -/
theorem row_bsin {w : World} {base c : Nat} {A : Option Addr} {L : List BX} (hrow : w.ownsRow base 24 6 (.slice A L.length c) L.length (batsC L)) (hr : ∀ x ∈ L, RsIn w x.2.2.1 x.2.1) : BsIn w A L := fun hp => by
  rcases hrow.2 with ⟨hv, h0⟩ | ⟨g, cap, cur, hv, hg, hh, h4, h5, h6, h7⟩
  · omega
  · injection hv with e1 _ _
    refine ⟨g, 0, e1, lt_of_there hh, fun j x hx => ?_⟩
    have hj : j < L.length := (List.getElem?_eq_some_iff.1 hx).1
    have k : ∀ i, i < 6 → w.cell? ⟨g, 0 + j * 6 + i, none⟩ = (batsC L)[j * 6 + i]? := fun i hi => by
      subst e1
      have := hrow.cellAt (j * 6 + i) (by omega)
      rw [show 0 + j * 6 + i = j * 6 + i by omega]
      exact this
    have k2 : ∀ i, i < 6 → (batsC L)[j * 6 + i]? = (bnC x.1 (.slice x.2.2.1 x.2.1.length x.2.2.2))[i]? := fun i hi => batsC_at hx hi
    refine ⟨⟨?_, ?_, ?_, ?_, ?_, ?_⟩, hr x (List.mem_of_getElem? hx)⟩
    · exact (k 0 (by decide)).trans ((k2 0 (by decide)).trans rfl)
    · exact (k 1 (by decide)).trans ((k2 1 (by decide)).trans rfl)
    · exact (k 2 (by decide)).trans ((k2 2 (by decide)).trans rfl)
    · exact (k 3 (by decide)).trans ((k2 3 (by decide)).trans rfl)
    · exact (k 4 (by decide)).trans ((k2 4 (by decide)).trans rfl)
    · exact (k 5 (by decide)).trans ((k2 5 (by decide)).trans rfl)
theorem own_news {w : World} {base t size n : Nat} {A : Addr} {len cap : Nat} {xs : List Value} (h : w.ownsRow base t size (.slice (some A) len cap) n xs) (hl : xs.length = n * size) : ∀ j u, xs[j]? = some u → w.cell? (A.add j) = some u := by
  intro j u hj
  rcases h.2 with ⟨hv, _⟩ | ⟨g, cap', cur, hv, hg, hh, h4, h5, h6, h7⟩
  · cases hv
  · injection hv with e1 e2 e3
    injection e1 with e1
    subst e1
    subst e2
    subst e3
    have hlt : j < len * size := by rw [← hl]; exact (List.getElem?_eq_some_iff.1 hj).1
    have := h.cellAt j hlt
    have e : (⟨g, 0, none⟩ : Addr).add j = ⟨g, j, none⟩ := by unfold Addr.add; split <;> simp_all
    rw [e]
    exact this.trans hj
theorem BtsR.base {w : World} {base base' : Nat} {v : Value} {L : List BX} (h : BtsR w base v L) (hb : base' ≤ base) : BtsR w base' v L := ⟨own_base h.row hb, fun x hx => (h.recs x hx).base hb⟩
theorem own_room {w : World} {base t size n : Nat} {v : Value} {xs : List Value} (h : w.ownsRow base t size v n xs) : v = .slice none 0 0 ∨ ∃ a n m, v = .slice (some a) n m ∧ n ≤ m := by
  rcases h.2 with ⟨hv, _⟩ | ⟨g, cap', cur, hv, hg, hh, h4, h5, h6, h7⟩
  · exact .inl hv
  · exact .inr ⟨_, _, _, hv, h4⟩
theorem append_nil_run (v : Value) (c : Nat) (hv : v = .slice none 0 0 ∨ ∃ a n m, v = .slice (some a) n m ∧ n ≤ m) (w : World) {i0 : TypeInfo} (hi : Tryd.prog.info? 24 = some i0) :
    (Builtin.append_ #[36, 36] 36 #[v, .slice none 0 c]).run Tryd.prog w = .ok v w := by
  rcases hv with rfl | ⟨a, n, m, rfl, hnm⟩
  · simp [Builtin.append_, run_underlying Tryd.underlying36, sizeOf, typeInfo, hi, Builtin.lenOf, Builtin.firstCells]
  · simp [Builtin.append_, run_underlying Tryd.underlying36, sizeOf, typeInfo, hi, Builtin.lenOf, Builtin.firstCells, hnm, storeCells]
/-- One list of batches behind another one. -/
theorem cat_run {w : World} {base base' n c : Nat} {v : Value} {xs : List Value} {A : Option Addr} {L : List BX} (hown : w.ownsRow base 24 6 v n xs) (hsrc : w.ownsRow base' 24 6 (.slice A L.length c) L.length (batsC L))
    (hb : base ≤ w.heap.size) (hn : n + L.length ≤ 1000000) : ∃ (A' : Option Addr) (c' : Nat) (w' : World), (Builtin.append_ #[36, 36] 36 #[v, .slice A L.length c]).run Tryd.prog w = .ok (.slice A' (n + L.length) c') w' ∧
      w'.ownsRow base 24 6 (.slice A' (n + L.length) c') (n + L.length) (xs ++ batsC L) ∧ w.grownBy w' v.ownBlock ∧ ((Value.slice A' (n + L.length) c').ownBlock = v.ownBlock ∨ (Value.slice A' (n + L.length) c').ownBlock = some w.heap.size) := by
  obtain ⟨i0, hi, hz0, hz1, hz2⟩ := info_parts batInfo
  cases A with
  | none =>
    have hL : L = [] := by
      rcases hsrc.2 with ⟨_, h0⟩ | ⟨g, cap', cur, hv, _⟩
      · exact List.length_eq_zero_iff.1 h0
      · cases hv
    subst hL
    have hr := append_nil_run v c (own_room hown) w hi
    rcases hown.2 with ⟨hv, h0⟩ | ⟨g, cap', cur, hv, _⟩
    · subst hv h0
      exact ⟨none, 0, w, hr, by simpa [batsC] using hown, ⟨rfl, rfl, rfl, Nat.le_refl _, fun _ _ _ => rfl⟩, .inl rfl⟩
    · subst hv
      exact ⟨_, _, w, hr, by simpa [batsC] using hown, ⟨rfl, rfl, rfl, Nat.le_refl _, fun _ _ _ => rfl⟩, .inl rfl⟩
  | some a =>
    obtain ⟨v', w', h1, h2, h3, h4, h5⟩ := run_append_own_at (P := Tryd.prog) (w := w) base 36 36 24 i0 _ 6 64 Tryd.underlying36 hi hz0 hz1 hz2 batC_zero (by decide) v n xs hown a L.length c (batsC L) (batsC_len L) (own_news hsrc (batsC_len L)) (batsC_one L) (by unfold maxLen; omega) (by omega) hb
    rcases h2.2 with ⟨hv, h0⟩ | ⟨g, cap', cur, hv, _⟩
    · subst hv
      rw [show n + L.length = 0 from h0] at h2 ⊢
      exact ⟨none, 0, w', h1, h2, h3, h5⟩
    · subst hv
      exact ⟨_, _, w', h1, h2, h3, h5⟩
theorem wpList_append_run {P : Program} {w w' : World} {ops : Array Oper} {rest : List Oper} {o : Oper} {a : Act} {Q : Exit → Act → World → Prop} (hgd : o.guard = none) (s x : Operand) (t : TypeId) (ho : o.op = .call { callee := .builtin .append, args := #[s, x], argTypes := #[t, t] })
    (v u v' : Value) (hs : a.eval s = v) (hx : a.eval x = u) (hr : (Builtin.append_ #[t, t] o.type #[v, u]).run P w = .ok v' w') (h : wpList P ops Q rest (a.put o.dst v') w') : wpList P ops Q (o :: rest) a w := by
  refine wpList_plain hgd fun K hK => ?_
  unfold Oper.wp execOp
  simp only [ho, resolve, invoke, builtin, Sem.run_bind, Sem.run_pure, Result.andThen_ok, List.map_toArray, List.map_cons, List.map_nil, hs, hx, hr]
  exact hK _ _ h
/-- Two lists of batches of the call's own, one behind the other. -/
structure Jn (W : World) (La Lb Lc : List BX) (Ac : Option Addr) (cc : Nat) (w : World) : Prop where
  ra : ∀ x ∈ La, RowR w W.heap.size (.slice x.2.2.1 x.2.1.length x.2.2.2) x.2.1
  rb : ∀ x ∈ Lb, RowR w W.heap.size (.slice x.2.2.1 x.2.1.length x.2.2.2) x.2.1
  rc : BtsR w W.heap.size (.slice Ac Lc.length cc) Lc
  bel : Below W.heap.size W w
theorem Jn.grown {W w w' : World} {La Lb Lc : List BX} {Ac : Option Addr} {cc n : Nat} {v : Value} {xs : List Value} (h : Jn W La Lb Lc Ac cc w) (ho : w.ownsRow W.heap.size 24 6 v n xs) (hg : w.grownBy w' v.ownBlock)
    (hne : ∀ k, (Value.slice Ac Lc.length cc).ownBlock = some k → v.ownBlock ≠ some k) : Jn W La Lb Lc Ac cc w' := by
  refine ⟨fun x hx => (h.ra x hx).kept ho hg, fun x hx => (h.rb x hx).kept ho hg, ⟨?_, fun x hx => (h.rc.recs x hx).kept ho hg⟩, h.bel.grown hg h.bel.size (fun j e => (ho.lt j e).1)⟩
  exact own_off h.rc.row ((Off.refl (fun k => v.ownBlock = some k) w).grown hg (fun k e _ => e)) (fun k e => hne k e)
set_option maxHeartbeats 8000000 in
set_option maxRecDepth 100000 in
theorem batchJoined_walk (a0 a1 : ByteArray) (W : World) (s0 : a0.size ≤ 140737488351232) (s1 : a1.size ≤ 140737488351232) (hT : Tab W) :
    Calls Tryd.prog 8 #[.string a0, .string a1] W (Yes W) := by
  by_cases h : 5000 < a0.size
  · have hi : (5000 : Int) < (a0.size : Int) := by omega
    go_enter Tryd.func8, Tryd.ntmps8
    go_wp2_with ((with_reducible refine (live5_c _ hT).mono ?_); rintro e w2 ⟨rfl, hb2⟩)
    go_ret
    exact ⟨rfl, hb2⟩
  have hi : ¬ (5000 : Int) < (a0.size : Int) := by omega
  by_cases h' : 5000 < a1.size
  · have hi' : (5000 : Int) < (a1.size : Int) := by omega
    go_enter Tryd.func8, Tryd.ntmps8
    go_wp2_with ((with_reducible refine (live5_c _ hT).mono ?_); rintro e w2 ⟨rfl, hb2⟩)
    go_ret
    exact ⟨rfl, hb2⟩
  have hi' : ¬ (5000 : Int) < (a1.size : Int) := by omega
  have hend := scanG_end (s := a0) (a0.size + 1) 0
  obtain ⟨n, hn⟩ : ∃ n : Nat, (scanG a0 (a0.size + 1) 0).2 = n := ⟨(scanG a0 (a0.size + 1) 0).2.toNat, by omega⟩
  have hon := scanG_on (s := a0) (t := a1) (R := (scanG a0 (a0.size + 1) 0).1) (n := n) (by rw [← hn])
  have hnz : n ≤ a0.size := by have := hend.2 (by omega); omega
  have hz : (a0.extract 0 n).size = n := by rw [ByteArray.size_extract]; omega
  have c1 := pscan_c a0 W (by omega) hT
  have c2 := fun w ht => pscan_c a1 w (by omega) ht
  have c3 := fun w ht => pscan_c (a0.extract 0 n ++ a1) w (by rw [ByteArray.size_append, hz]; omega) ht
  have hadd := add_run (P := Tryd.prog) (a := a0.extract 0 n) (b := a1) (m := 5000) (n := 5000) (by omega) (by omega) (by decide)
  have HOA := Lib.hid (scanG_recs (s := a0) (a0.size + 1) 0)
  have HOB := Lib.hid (scanG_recs (s := a1) (a1.size + 1) 0)
  have HOC := Lib.hid (scanG_recs (s := a0.extract 0 n ++ a1) ((a0.extract 0 n ++ a1).size + 1) 0)
  have HNA := Lib.hid (scanG_len (s := a0) (a0.size + 1) 0)
  have HNB := Lib.hid (scanG_len (s := a1) (a1.size + 1) 0)
  have HN1 := Lib.hid hnz
  have HN2 := Lib.hid (And.intro h h')
  rw [hon] at c3 HOC
  rw [hn] at c1
  have hm := scanG_end (s := a1) (a1.size + 1) 0
  obtain ⟨m, hm'⟩ : ∃ m : Nat, (scanG a1 (a1.size + 1) 0).2 = m := ⟨(scanG a1 (a1.size + 1) 0).2.toNat, by omega⟩
  have hmz : m ≤ a1.size := by have := hm.2 (by omega); omega
  rw [hm'] at c2 c3
  clear hon hn hend hz hm hm' s0 s1 hnz h h'
  generalize (scanG a0 (a0.size + 1) 0).1 = RA at *
  generalize (scanG a1 (a1.size + 1) 0).1 = RB at *
  have hnn : ¬ (n : Int) < 0 := by omega
  have hns : ¬ (a0.size : Int) < (n : Int) := by have := HN1.out; omega
  have hn5 : n ≤ 5000 := by have := HN1.out; have := HN2.out.1; omega
  have hm5 : m ≤ 5000 := by have := HN2.out.2; omega
  unfold GotSc at c1 c2 c3
  obtain ⟨i0, hiq, hz0, hz1, hz2⟩ := info_parts batInfo
  have hnu := fun w v c hv => append_nil_run v c hv w hiq
  have HINF := Lib.hid (And.intro hiq (And.intro hz0 (And.intro hz1 (And.intro hz2 hnu))))
  clear hiq hz0 hz1 hz2 hnu hmz
  go_enter Tryd.func8, Tryd.ntmps8
  go_wp2_with fail
  (with_reducible refine c1.mono ?_)
  rintro e w1 ⟨La, Aa, ca, hLa, rfl, hrow, hb1⟩
  have H1 := Lib.hid (And.intro hb1 hrow)
  have HLA := Lib.hid hLa
  clear hb1 hrow hLa c1
  go_wp2_with fail
  (with_reducible refine (c2 _ (hT.below H1.out.1)).mono ?_)
  rintro e w2 ⟨Lb, Ab, cb, hLb, rfl, hrow, hb2⟩
  have H2 := Lib.hid (And.intro (H1.out.1.trans (hb2.mono H1.out.1.size)) (And.intro (H1.out.2.later hb2) (BtsR.base hrow H1.out.1.size)))
  have HLB := Lib.hid hLb
  clear hb2 hrow hLb c2 H1
  go_wp2_with fail
  (with_reducible refine (c3 _ (hT.below H2.out.1)).mono ?_)
  rintro e w3 ⟨Lc, Ac, cc, hLc, rfl, hrow, hb3⟩
  have H3 := Lib.hid (⟨(H2.out.2.1.later hb3).recs, (H2.out.2.2.later hb3).recs, BtsR.base hrow H2.out.1.size, H2.out.1.trans (hb3.mono H2.out.1.size)⟩ : Jn W La Lb Lc Ac cc w3)
  have HRA := Lib.hid (H2.out.2.1.later hb3).row
  have HRB := Lib.hid (H2.out.2.2.later hb3).row
  have HLC := Lib.hid hLc
  clear hb3 hrow hLc c3 H2
  have hlA : La.length ≤ 10000 := by
    have e1 := congrArg List.length HLA.out
    rw [List.length_map] at e1
    have := HNA.out
    have := HN2.out.1
    omega
  have hlB : Lb.length ≤ 10000 := by
    have e1 := congrArg List.length HLB.out
    rw [List.length_map] at e1
    have := HNB.out
    have := HN2.out.2
    omega
  have hcc : Hid (∀ (M : List BX) (A' : Option Addr) (c' : Nat) (w : World), M = La ++ Lb → Jn W La Lb Lc Ac cc w → w.ownsRow W.heap.size 24 6 (.slice A' M.length c') M.length (batsC M) → Calls Tryd.prog 21 #[.slice Ac Lc.length cc, .slice A' M.length c'] w (Good w (.bool true))) := Lib.hid (fun M A' c' w hM hJ hrow => by
    subst hM
    have hLM : Lc.map BX.told = (La ++ Lb).map BX.told := by rw [HLC.out, List.map_append, HLA.out, HLB.out]
    have hlc : Lc.length ≤ 140737488351232 := by
      have e1 := congrArg List.length hLM
      simp only [List.length_map, List.length_append] at e1
      omega
    refine rsameAll5_c Lc (La ++ Lb) Ac A' cc c' w (hJ.rc.bsinOk HLC.out (fun x hx => (HOC.out x hx).2)) (row_bsin hrow (fun x hx => ?_)) hLM hlc (fun x hx => told_small HLC.out HOC.out hx)
    rw [List.mem_append] at hx
    rcases hx with hx | hx
    · exact (hJ.ra x hx).rsin (fun y hy => (HOA.out _ (told_mem HLA.out hx)).2 y.1 (List.mem_map_of_mem hy))
    · exact (hJ.rb x hx).rsin (fun y hy => (HOB.out _ (told_mem HLB.out hx)).2 y.1 (List.mem_map_of_mem hy)))
  clear HOA HOB HOC HLA HLB HLC HNA HNB HINF
  obtain ⟨A1, k1, w4, hr1, ho1, hg1, hk1⟩ := cat_run (World.ownsRow_nil w3 W.heap.size 24 6) HRA.out H3.out.bel.size (by omega)
  have hb34 : Below w3.heap.size w3 w4 := ⟨hg1.os, hg1.tape, hg1.output, hg1.size, fun k hk => hg1.block k hk (fun e => by cases e)⟩
  have HJ4 : Hid (Jn W La Lb Lc Ac cc w4) := Lib.hid (H3.out.grown (World.ownsRow_nil w3 W.heap.size 24 6) hg1 (fun k _ e => by cases e))
  have HRB4 := Lib.hid (own_below HRB.out hb34)
  have hlc3 : ∀ k, (Value.slice Ac Lc.length cc).ownBlock = some k → k < w3.heap.size := fun k e => (H3.out.rc.row.lt k e).2
  rw [Nat.zero_add] at hr1 ho1 hk1
  rw [List.nil_append] at ho1
  obtain ⟨A2, k2, w5, hr2, ho2, hg2, hk2⟩ := cat_run ho1 HRB4.out HJ4.out.bel.size (by omega)
  have HJ5 : Hid (Jn W La Lb Lc Ac cc w5) := Lib.hid (HJ4.out.grown ho1 hg2 (fun k e e' => by
    have hlt := hlc3 k e
    rcases hk1 with h | h
    · rw [h] at e'; cases e'
    · rw [h] at e'
      injection e' with e'
      omega))
  rw [← batsC_app, ← List.length_append] at ho2
  have HS := Lib.hid (hcc.out _ A2 k2 w5 rfl HJ5.out ho2)
  rw [List.length_append] at HS
  have HR1 := Lib.hid hr1
  have HR2 := Lib.hid hr2
  clear hr1 hr2 hb34 HRA HRB HRB4 H3 ho1 hg1 hk1 hlc3 ho2 hg2 hk2 hcc HJ4
  go_wp2_with (at_builtin; first | refine wpList_append_run rfl _ _ 36 rfl _ _ _ rfl rfl HR1.out ?_ | refine wpList_append_run rfl _ _ 36 rfl _ _ _ rfl rfl HR2.out ?_)
  (with_reducible refine HS.out.mono ?_)
  rintro e w6 ⟨rfl, hb6⟩
  have H6 := Lib.hid (HJ5.out.bel.trans (hb6.mono HJ5.out.bel.size))
  clear hb6 HJ5 HS HR1 HR2
  go_wp2_with fail
  (with_reducible refine (live5_c _ (hT.below H6.out)).mono ?_)
  rintro e w7 ⟨rfl, hb7⟩
  have H7 := Lib.hid (H6.out.trans (hb7.mono H6.out.size))
  clear hb7 H6
  go_wp2_with fail
  go_ret
  exact ⟨rfl, H7.out⟩
end Go.Proofs.YtmhamfhhojmeoaaDoor
/- The law BatchBack walks to true; what an argument that is a list of batches reads as. Condition: the table of sums. -/
namespace Go.Proofs.YtmhamfhhojmeoaaDoor
open Go.RowKit Go.WideShapes Go.ChangeShapes Go.Deep Go.WideMaps Go.WideElems
set_option linter.unusedVariables false
section
variable {H : Type} {enc : TypeId × Value → H} {w : World} {base : Nat} {sp : Nat → Bool} {held : Bool}
set_option maxRecDepth 100000 in
theorem open_bats {r : Reach} {b0 : Nat} {v : Value} {d : DataW H} {p : List MemPlace} (hv : Value.okWide Tryd.prog w r b0 36 v) (h : DataW.Trod enc Tryd.prog w base sp held 36 v d p) (hw : Weighs Tryd.prog 36 d) :
    ∃ (A : Option Addr) (c : Nat) (L : List BX), v = .slice A L.length c ∧ BsIn w A L ∧ ∀ x ∈ L, x.2.1.length ≤ 140737488351232 := by
  obtain ⟨fuel, hf⟩ := h
  obtain ⟨A0, len0, cap0, rfl⟩ := okWide_slice Tryd.underlying36 hv
  have hf' : DataW.trod enc Tryd.prog w base sp held fuel 36 [.slice A0 len0 cap0] = some (d, p) := hf
  rcases open_slice Tryd.underlying36 hf' with ⟨hcs, _⟩ | ⟨a, len, cap, m, n', D, Pl, hcs, _, hlc, _, hm, hx, hi⟩
  · refine ⟨A0, cap0, [], ?_, fun hp => by simp at hp, fun x hx => by cases hx⟩
    simp at hcs
    rw [hcs.2.1]
    rfl
  · have hlm : len ≤ m := by rw [hm]; split <;> omega
    have hxv : (Value.slice A0 len0 cap0) = .slice (some a) len cap := by simpa using hcs
    have hD : d = .slice ((List.range len).map D) ((List.range (m - len)).map fun j => D (len + j)) := by
      have := congrArg Prod.fst hx
      exact this
    rw [hD] at hw
    have key : ∀ i, i < len → ∃ o : BX, (∀ j u, (bnC o.1 (.slice o.2.2.1 o.2.1.length o.2.2.2))[j]? = some u → w.cell? ((a.add (i * 6)).add j) = some u) ∧ RsIn w o.2.2.1 o.2.1 ∧ o.2.1.length ≤ 140737488351232 := by
      intro i hil
      obtain ⟨cs', hc, ht'⟩ := hi i (by omega)
      rw [show Tryd.prog.cellsOf 24 = 6 by kernel_rfl] at hc
      obtain ⟨_, hcl2, hat⟩ := World.cells?_some hc
      have hwe : Weighs Tryd.prog 24 (D i) := weighs_elem Tryd.underlying36 hw (i := i) (by simp [hil])
      obtain ⟨n2, get⟩ := open_cells Tryd.underlying24 (by kernel_rfl) hcl2 ht' hwe
      obtain ⟨x0, y0, q0, t0, w0⟩ := get 0 _ rfl
      obtain ⟨x1, y1, q1, t1, w1⟩ := get 1 _ rfl
      obtain ⟨x2, y2, q2, t2, w2⟩ := get 2 _ rfl
      obtain ⟨x3, y3, q3, t3, w3⟩ := get 3 _ rfl
      obtain ⟨x4, y4, q4, t4, w4⟩ := get 4 _ rfl
      obtain ⟨x5, y5, q5, t5, w5⟩ := get 5 _ rfl
      obtain ⟨n0, e0, _, _⟩ := DataW.trod_int Tryd.underlying3 t0
      obtain ⟨n1, e1, _, _⟩ := DataW.trod_int Tryd.underlying3 t1
      obtain ⟨n2, e2, _, _⟩ := DataW.trod_int Tryd.underlying3 t2
      obtain ⟨n3, e3, _, _⟩ := DataW.trod_int Tryd.underlying3 t3
      obtain ⟨n4, e4, _, _⟩ := DataW.trod_int Tryd.underlying3 t4
      obtain ⟨A, c, L, e5, hin, hl⟩ := open_recs t5 w5
      obtain rfl : x0 = .int .i64 n0 := by simpa using e0
      obtain rfl : x1 = .int .i64 n1 := by simpa using e1
      obtain rfl : x2 = .int .i64 n2 := by simpa using e2
      obtain rfl : x3 = .int .i64 n3 := by simpa using e3
      obtain rfl : x4 = .int .i64 n4 := by simpa using e4
      subst e5
      refine ⟨(⟨n0, n1, n2, n3, n4⟩, L, A, c), fun j u hj => ?_, hin, hl⟩
      have hj6 : j < 6 := (Array.getElem?_eq_some_iff.1 hj).1
      rw [hat j hj6]
      match j, hj6, hj with
      | 0, _, hj => rw [q0]; exact hj
      | 1, _, hj => rw [q1]; exact hj
      | 2, _, hj => rw [q2]; exact hj
      | 3, _, hj => rw [q3]; exact hj
      | 4, _, hj => rw [q4]; exact hj
      | 5, _, hj => rw [q5]; exact hj
    have hex : ∃ F : Nat → BX, ∀ i, i < len → (∀ j u, (bnC (F i).1 (.slice (F i).2.2.1 (F i).2.1.length (F i).2.2.2))[j]? = some u → w.cell? ((a.add (i * 6)).add j) = some u) ∧ RsIn w (F i).2.2.1 (F i).2.1 ∧ (F i).2.1.length ≤ 140737488351232 := by
      classical
      refine ⟨fun i => if h : i < len then Classical.choose (key i h) else (⟨0, 0, 0, 0, 0⟩, [], none, 0), fun i hil => ?_⟩
      simp only [dif_pos hil]
      exact Classical.choose_spec (key i hil)
    obtain ⟨F, hF⟩ := hex
    refine ⟨some a, cap, (List.range len).map F, by simp [hxv], fun hp => ?_, fun x hx => ?_⟩
    · have hp' : 0 < len := by simpa using hp
      obtain ⟨b, off, rfl, hb⟩ := addr_plain (w := w) (a := a) (v := .int .i64 (F 0).1.base) (by
        have h0 := (hF 0 hp').1 0 _ rfl
        rw [Nat.zero_mul] at h0
        have e : ∀ a : Addr, a.add 0 = a := fun a => by unfold Addr.add; rfl
        rw [e, e] at h0
        rw [e]
        exact h0)
      refine ⟨b, off, rfl, hb, fun j o hj => ?_⟩
      obtain ⟨hj1, hj2⟩ := List.getElem?_eq_some_iff.1 hj
      have hj' : j < len := by simpa using hj1
      have : F j = o := by simpa using hj2
      subst this
      obtain ⟨h1, h2, _⟩ := hF j hj'
      rw [add_at] at h1
      have g : ∀ i u, (bnC (F j).1 (.slice (F j).2.2.1 (F j).2.1.length (F j).2.2.2))[i]? = some u → w.cell? ⟨b, off + j * 6 + i, none⟩ = some u := fun i u hu => by
        have := h1 i u hu
        rwa [add_at] at this
      exact ⟨⟨g 0 _ rfl, g 1 _ rfl, g 2 _ rfl, g 3 _ rfl, g 4 _ rfl, g 5 _ rfl⟩, h2⟩
    · obtain ⟨i, hi', rfl⟩ := List.mem_map.1 hx
      exact (hF i (by simpa using hi')).2.2
end
/-- Behind k batches: their bytes, those that may be, and what was ahead of the last one. -/
structure BkS (W : World) (L : List BX) (k : Nat) (s : ByteArray) (last : Nat) (M : List BX) (A : Option Addr) (c : Nat) (w : World) : Prop where
  scan : scanG s (s.size + 1) 0 = (M.map BX.told, (s.size : Int))
  size : s.size ≤ 60008 * k
  len : M.length ≤ k
  mem : ∀ x ∈ M, x ∈ L ∧ SmallL x.2.1
  prev : (last = 0 ∧ M = []) ∨ ∃ (s0 : ByteArray) (M0 : List BX) (x : BX), s = s0 ++ encB x.1 x.2.1 ∧ last = (encB x.1 x.2.1).size ∧ batB x.1 x.2.1 = true ∧ M = M0 ++ [x] ∧ scanG s0 (s0.size + 1) 0 = (M0.map BX.told, (s0.size : Int))
  row : w.ownsRow W.heap.size 24 6 (.slice A M.length c) M.length (batsC M)
  bel : Below W.heap.size W w
theorem BkS.start (W : World) (L : List BX) : BkS W L 0 ⟨#[]⟩ 0 [] none 0 W :=
  ⟨by rw [scanG_no (dec_short (by decide))]; rfl, by decide, by decide, (fun x hx => by cases hx), .inl ⟨rfl, rfl⟩, World.ownsRow_nil _ _ _ _, Below.refl _ _⟩
theorem BkS.later {W w w' : World} {L : List BX} {k : Nat} {s : ByteArray} {last : Nat} {M : List BX} {A : Option Addr} {c : Nat} (h : BkS W L k s last M A c w) (hb : Below w.heap.size w w') : BkS W L k s last M A c w' :=
  ⟨h.scan, h.size, h.len, h.mem, h.prev, own_below h.row hb, h.bel.trans (hb.mono h.bel.size)⟩
theorem BkS.pass {W w : World} {L : List BX} {k : Nat} {s : ByteArray} {last : Nat} {M : List BX} {A : Option Addr} {c : Nat} (h : BkS W L k s last M A c w) : BkS W L (k + 1) s last M A c w :=
  ⟨h.scan, by have := h.size; omega, by have := h.len; omega, h.mem, h.prev, h.row, h.bel⟩
theorem BkS.more {W w w' : World} {L : List BX} {k : Nat} {s : ByteArray} {last : Nat} {M : List BX} {A A' : Option Addr} {c c' : Nat} {x : BX} (h : BkS W L k s last M A c w) (hx : x ∈ L) (hs : SmallL x.2.1) (hb : batB x.1 x.2.1 = true)
    (hr : w'.ownsRow W.heap.size 24 6 (.slice A' (M.length + 1) c') (M.length + 1) (batsC M ++ (bnC x.1 (.slice x.2.2.1 x.2.1.length x.2.2.2)).toList)) (hbel : Below W.heap.size W w') :
    BkS W L (k + 1) (s ++ encB x.1 x.2.1) (encB x.1 x.2.1).size (M ++ [x]) A' c' w' := by
  have hz := encB_size hb
  refine ⟨?_, by rw [ByteArray.size_append]; have := h.size; omega, by rw [List.length_append]; have := h.len; simp; omega, fun y hy => ?_, .inr ⟨s, M, x, rfl, rfl, hb, rfl, h.scan⟩, ?_, hbel⟩
  · rw [scan_enc h.scan hb, List.map_append]
    rfl
  · rw [List.mem_append] at hy
    rcases hy with hy | hy
    · exact h.mem y hy
    · simp at hy
      subst hy
      exact ⟨hx, hs⟩
  · rw [batsC_snoc, List.length_append]
    exact hr
theorem bsin_prefix {w : World} {A : Option Addr} {M : List BX} {x : BX} (h : BsIn w A (M ++ [x])) : BsIn w A M := fun hp => by
  obtain ⟨b, off, e, hl, hc⟩ := h (by rw [List.length_append]; omega)
  refine ⟨b, off, e, hl, fun j y hj => hc j y ?_⟩
  rw [List.getElem?_append_left (List.getElem?_eq_some_iff.1 hj).1]
  exact hj
theorem small_told {x : BX} (h : SmallL x.2.1) : x.2.1.length ≤ 1000 ∧ ∀ y ∈ x.2.1, y.1.heads.length ≤ 1000 := by
  obtain ⟨h1, h2⟩ := h
  exact ⟨by omega, fun y hy => by have := (h2 y hy).1; omega⟩
theorem bsin_mem {w : World} {A : Option Addr} {L : List BX} (h : BsIn w A L) {x : BX} (hx : x ∈ L) : RsIn w x.2.2.1 x.2.1 := by
  obtain ⟨j, hj⟩ := List.getElem?_of_mem hx
  obtain ⟨b, off, e, hl, hc⟩ := h (by have := (List.getElem?_eq_some_iff.1 hj).1; omega)
  exact (hc j x hj).2
theorem same_scan {W w : World} {L : List BX} {k : Nat} {s : ByteArray} {last : Nat} {M N : List BX} {A B : Option Addr} {c d : Nat} (hS : BkS W L k s last M A c w) (hA : BsIn w A M) (hL : ∀ x ∈ L, RsIn w x.2.2.1 x.2.1) {K : List BX} (hK : ∃ r, M = K ++ r) (hN : N.map BX.told = K.map BX.told) (hrow : BtsR w W.heap.size (.slice B N.length d) N) (hk : k ≤ 8) :
    Calls Tryd.prog 21 #[.slice B N.length d, .slice A K.length c] w (Good w (.bool true)) := by
  obtain ⟨r, rfl⟩ := hK
  have hok : ∀ x ∈ K.map BX.told, x.2.length ≤ 50 ∧ ∀ y ∈ x.2, okRec y = true := fun x hx => by
    refine scanG_recs (s := s) (s.size + 1) 0 x ?_
    rw [hS.scan, List.map_append]
    exact List.mem_append_left _ hx
  have hlen := congrArg List.length hN
  simp only [List.length_map] at hlen
  have hl := hS.len
  rw [List.length_append] at hl
  refine rsameAll5_c N K B A d c w (hrow.bsinOk hN (fun x hx => (hok x hx).2)) (fun hp => ?_) hN (by omega) (fun x hx => told_small hN hok hx)
  obtain ⟨b, off, e, hlt, hc⟩ := hA (by rw [List.length_append]; omega)
  refine ⟨b, off, e, hlt, fun j y hj => hc j y ?_⟩
  rw [List.getElem?_append_left (List.getElem?_eq_some_iff.1 hj).1]
  exact hj
set_option maxHeartbeats 16000000 in
set_option maxRecDepth 100000 in
theorem back5_go (L : List BX) (A : Option Addr) (c : Nat) (a1 : Int) (m : Nat) (W : World) (hA : BsIn W A L) (hl : ∀ x ∈ L, x.2.1.length ≤ 140737488351232) (hm : m ≤ 9223372036854775807) (ha : a1 = m ∨ a1 = -(m : Int) - 1) (hT : Tab W) :
    Calls Tryd.prog 6 #[.slice A L.length c, .int .i64 a1] W (Yes W) := by
  by_cases h8 : 8 < L.length
  · have h8i : (8 : Int) < (L.length : Int) := by omega
    go_enter Tryd.func6, Tryd.ntmps6
    go_wp2_with ((with_reducible refine (live5_c _ hT).mono ?_); rintro e w2 ⟨rfl, hb2⟩)
    go_ret
    exact ⟨rfl, hb2⟩
  have h8i : ¬ (8 : Int) < (L.length : Int) := by omega
  have HT := Lib.hid (fun w (hb : Below W.heap.size W w) => hT.below hb)
  have HA := Lib.hid (And.intro hA hl)
  have H0 := Lib.hid (BkS.start W L)
  have HM := Lib.hid (And.intro hm ha)
  obtain ⟨i0, hi, hz0, hz1, hz2⟩ := info_parts batInfo
  clear hA hl hT hm ha
  go_enter Tryd.func6, Tryd.ntmps6
  go_wp2_with fail
  go_loopw [5, 6, 7, 8] (fun sv lv mv i wr => ∃ (k : Nat) (s : ByteArray) (last : Nat) (M : List BX) (A' : Option Addr) (c' : Nat), i = .int .i64 k ∧ k ≤ L.length ∧ sv = .string s ∧ lv = .int .i64 last ∧ mv = .slice A' M.length c' ∧ BkS W L k s last M A' c' wr) (fun _ _ _ i _ => L.length - (intOf i).toNat)
  case atStart => exact ⟨0, ⟨#[]⟩, 0, [], none, 0, rfl, Nat.zero_le _, rfl, rfl, rfl, H0.out⟩
  case round =>
    obtain ⟨k, s, last, M, A', c', rfl, hkl, rfl, rfl, rfl, hS⟩ := hrel
    clear H0
    have HS := Lib.hid hS
    by_cases hk : k < L.length
    · obtain ⟨x, hx⟩ : ∃ x, L[k]? = some x := ⟨_, List.getElem?_eq_getElem hk⟩
      obtain ⟨b, off, rfl, hbl, hca⟩ := (HA.out.1.below hS.bel) (by omega)
      obtain ⟨⟨x0, x1, x2, x3, x4, x5⟩, rin⟩ := hca k x hx
      have hxm := List.mem_of_getElem? hx
      have hxl := HA.out.2 x hxm
      obtain ⟨n, X, B, d⟩ := x
      obtain ⟨base, span, prod, epoch, seq⟩ := n
      have hsm := rsmall_c ⟨base, span, prod, epoch, seq⟩ X B d wr rin hxl
      have hen := fun w hx ht => pencode_c ⟨base, span, prod, epoch, seq⟩ B d X w hx hxl ht
      have HX := Lib.hid (And.intro hxm (And.intro rin hxl))
      have HC := Lib.hid (show BxAt wr b (off + k * 6) (⟨base, span, prod, epoch, seq⟩, X, B, d) from ⟨x0, x1, x2, x3, x4, x5⟩)
      have HBL := Lib.hid hbl
      unfold GotSm bnC at hsm
      unfold encV bnC at hen
      simp only at hsm hen x0 x1 x2 x3 x4 x5
      have hki : (k : Int) < (L.length : Int) := by omega
      have hk0 : (0 : Int) ≤ (k : Int) := by omega
      clear hS hca rin hxm hxl hx hbl
      go_wp2_with fail
      (with_reducible refine hsm.mono ?_)
      rintro en w1 ⟨res, rfl, hres, hb1⟩
      have H1 := Lib.hid (HS.out.later hb1)
      have HC1 := Lib.hid (HC.out.below HBL.out hb1)
      have HR1 := Lib.hid (HX.out.2.1.below hb1)
      have HBL1 := Lib.hid (Nat.lt_of_lt_of_le HBL.out hb1.size)
      clear hb1 hsm HS HC HBL x0 x1 x2 x3 x4 x5
      cases res with
      | false =>
        clear hen hres
        go_wp2_with fail
        (with_reducible refine (live5_c _ (HT.out _ H1.out.bel)).mono ?_)
        rintro en w2 ⟨rfl, hb2⟩
        have H2 := Lib.hid (H1.out.bel.trans (hb2.mono H1.out.bel.size))
        clear hb2
        go_wp2_with fail
        go_ret
        exact ⟨rfl, H2.out⟩
      | true =>
        have HSM := Lib.hid (hres rfl)
        clear hres
        obtain ⟨x0, x1, x2, x3, x4, x5⟩ := id HC1.out
        simp only at x0 x1 x2 x3 x4 x5
        cases hgood : batB ⟨base, span, prod, epoch, seq⟩ X with
        | false =>
          rw [show batE ⟨base, span, prod, epoch, seq⟩ X = 1 by unfold batE; rw [hgood]; rfl] at hen
          clear hgood
          go_wp2_with fail
          (with_reducible refine (hen _ HR1.out (HT.out _ H1.out.bel)).mono ?_)
          rintro en w2 ⟨rfl, hb2⟩
          have H2 := Lib.hid (H1.out.later hb2)
          clear hb2 hen x0 x1 x2 x3 x4 x5 H1 HC1 HR1 HBL1
          go_wp2_with fail
          go_roundw
          case rel => exact ⟨k + 1, s, last, M, A', c', by go_num, hk, rfl, rfl, rfl, H2.out.pass⟩
          case measure => simp [intOf]; omega
        | true =>
          have HG := Lib.hid hgood
          rw [show batE ⟨base, span, prod, epoch, seq⟩ X = 0 by unfold batE; rw [hgood]; rfl] at hen
          have hez := encB_size hgood
          have hsz := H1.out.size
          have hadd := add_run (P := Tryd.prog) (a := s) (b := encB ⟨base, span, prod, epoch, seq⟩ X) (m := 480064) (n := 60008) (by omega) hez.2 (by decide)
          have HMORE := Lib.hid (fun A1 c1 w3 hr hb => H1.out.more (w' := w3) (A' := A1) (c' := c1) (x := (⟨base, span, prod, epoch, seq⟩, X, B, d)) HX.out.1 HSM.out HG.out hr hb)
          simp only at HMORE
          have hML : M.length ≤ 8 := by have := H1.out.len; omega
          clear hgood hsz
          generalize encB ⟨base, span, prod, epoch, seq⟩ X = E at *
          go_wp2_with fail
          (with_reducible refine (hen _ HR1.out (HT.out _ H1.out.bel)).mono ?_)
          rintro en w2 ⟨rfl, hb2⟩
          obtain ⟨x0, x1, x2, x3, x4, x5⟩ := HC1.out.below HBL1.out hb2
          simp only at x0 x1 x2 x3 x4 x5
          have hrow := own_below (own_below H1.out.row hb2) ((Below.refl w2.heap.size w2).alloc (Nat.le_refl _) (.cells #[.int .i64 base, .int .i64 span, .int .i64 prod, .int .i64 epoch, .int .i64 seq, .slice B X.length d] 24))
          have HB2 := Lib.hid ((H1.out.bel.trans (hb2.mono H1.out.bel.size)).alloc (Nat.le_trans H1.out.bel.size hb2.size) (.cells #[.int .i64 base, .int .i64 span, .int .i64 prod, .int .i64 epoch, .int .i64 seq, .slice B X.length d] 24))
          have hnews := news_at (Box.new w2 24 (bnC ⟨base, span, prod, epoch, seq⟩ (.slice B X.length d)))
          have hone := bat_one ⟨base, span, prod, epoch, seq⟩ B X.length d
          unfold bnC at hnews hone
          simp only at hnews hone
          have HNW := Lib.hid (And.intro hnews hone)
          have hsz2 := HB2.out.size
          clear hb2 hen hnews hone
          go_wp2_with (at_builtin; refine wpList_append_own_at _ rfl _ _ 36 rfl W.heap.size 24 i0 _ 6 64 Tryd.underlying36 hi hz0 hz1 hz2 batC_zero (by decide) (.slice A' M.length c') M.length (batsC M) rfl hrow ⟨w2.heap.size, 0, none⟩ 1 1 [.int .i64 base, .int .i64 span, .int .i64 prod, .int .i64 epoch, .int .i64 seq, .slice B X.length d] rfl rfl HNW.out.1 HNW.out.2 (by unfold maxLen; omega) (by omega) hsz2 ?_)
          intro v' w3 hown' hgrow _ _
          obtain ⟨g', cap', rfl⟩ : ∃ g' cap', v' = .slice (some ⟨g', 0, none⟩) (M.length + 1) cap' := by
            rcases hown'.2 with ⟨_, h0⟩ | ⟨g, cap, cur, hv, _⟩
            · omega
            · exact ⟨g, cap, hv⟩
          have HB3 := Lib.hid (HB2.out.grown hgrow hsz2 (fun j e => (hrow.lt j e).1))
          have H3 := Lib.hid (HMORE.out _ _ _ hown' HB3.out)
          clear hown' hgrow hrow HMORE HB2 x0 x1 x2 x3 x4 x5 HNW
          go_wp2
          go_roundw
          case rel =>
            refine ⟨k + 1, s ++ E, E.size, M ++ [(⟨base, span, prod, epoch, seq⟩, X, B, d)], some ⟨g', 0, none⟩, cap', by go_num, hk, rfl, rfl, ?_, H3.out⟩
            rw [show (M ++ [((⟨base, span, prod, epoch, seq⟩, X, B, d) : BX)]).length = M.length + 1 by simp]
          case measure => simp [intOf]; omega
    · have hkL : k ≤ 8 := by omega
      have hsz := hS.size
      have hs1 : s.size ≤ 480064 := by omega
      have hprev := hS.prev
      have HK := Lib.hid hkL
      have hin : Hid (∀ w, Below W.heap.size W w → ∀ x ∈ L, RsIn w x.2.2.1 x.2.1) := Lib.hid (fun w hb x hx => (bsin_mem HA.out.1 hx).below hb)
      have hbs : Hid (∀ w, BkS W L k s last M A' c' w → BsIn w A' M) := Lib.hid (fun w h => row_bsin h.row (fun x hx => hin.out w h.bel x (h.mem x hx).1))
      have c1 := pscan_c s wr (by omega) (HT.out _ hS.bel)
      rw [hS.scan] at c1
      unfold GotSc at c1
      have hML := hS.len
      have hroom := own_room hS.row
      clear hS hsz hkL
      rcases hprev with ⟨rfl, rfl⟩ | ⟨s0, M0, x, hse, hla, hgood, hMe, hsc0⟩
      · go_wp2_with fail
        (with_reducible refine c1.mono ?_)
        rintro e w1 ⟨Lc, Ac, cc, hLc, rfl, hrow, hb1⟩
        have H1 := Lib.hid (HS.out.later hb1)
        have HSM := Lib.hid (same_scan H1.out (hbs.out _ H1.out) (hin.out _ H1.out.bel) ⟨[], (List.append_nil _).symm⟩ hLc (BtsR.base hrow HS.out.bel.size) HK.out)
        rw [List.length_nil] at HSM
        clear hb1 hLc hrow c1 HS
        go_wp2_with fail
        (with_reducible refine HSM.out.mono ?_)
        rintro e w2 ⟨rfl, hb2⟩
        have H2 := Lib.hid (H1.out.bel.trans (hb2.mono H1.out.bel.size))
        clear hb2 H1 HSM
        go_wp2_with fail
        (with_reducible refine (live5_c _ (HT.out _ H2.out)).mono ?_)
        rintro e w3 ⟨rfl, hb3⟩
        have H3 := Lib.hid (H2.out.trans (hb3.mono H2.out.size))
        clear hb3
        go_wp2_with fail
        go_ret
        exact ⟨rfl, H3.out⟩
      · have hez := encB_size hgood
        have hcut := fun k hk => scan_cut (k := k) hsc0 hgood hk
        have HKP := Lib.hid (show ∃ r, M = M0 ++ r from ⟨[x], hMe⟩)
        have hMl : M.length = M0.length + 1 := by rw [hMe, List.length_append]; rfl
        generalize encB x.1 x.2.1 = E at *
        subst hla
        have hF : (m : Int) % (E.size : Int) = ((m % E.size : Nat) : Int) := by omega
        have hFt : (m : Int).tmod (E.size : Int) = ((m % E.size : Nat) : Int) := by rw [Int.tmod_eq_emod_of_nonneg (Int.natCast_nonneg m)]; exact hF
        have hFl : m % E.size < E.size := Nat.mod_lt _ (by omega)
        generalize m % E.size = F at hF hFt hFl
        have hss : s.size = s0.size + E.size := by rw [hse, ByteArray.size_append]
        obtain ⟨q, hq⟩ : ∃ q : Nat, q = s0.size + (E.size - (1 + F)) := ⟨_, rfl⟩
        have hex : s.extract 0 q = s0 ++ E.extract 0 (E.size - (1 + F)) := by
          rw [hse]
          apply ByteArray.ext
          apply Array.ext'
          have hl0 : s0.data.toList.length = s0.size := rfl
          rw [extract_list, ByteArray.data_append, ByteArray.data_append, Array.toList_append, Array.toList_append, extract_list, List.drop_zero, List.drop_zero, Nat.sub_zero, Nat.sub_zero, List.take_append, hl0, List.take_of_length_le (by omega)]
          congr 2
          omega
        have hsc1 := hcut (E.size - (1 + F)) (by omega)
        rw [← hex] at hsc1
        have hqs : q ≤ s.size := by omega
        have c2 := fun w ht => pscan_c (s.extract 0 q) w (by rw [ByteArray.size_extract]; omega) ht
        rw [hsc1] at c2
        unfold GotSc at c2
        have g1 : (s.size : Int) - (1 + (F : Int)) = (q : Int) := by omega
        have g2 : (s.size : Int) - (E.size : Int) = (s0.size : Int) := by omega
        have g3 : ((E.size : Int) == 0) = false := by rw [beq_eq_false_iff_ne]; omega
        have g4 : (M.length : Int) - 1 = (M0.length : Int) := by omega
        have g5 : F ≤ 60008 := by omega
        have g6 : 1 ≤ E.size := by omega
        have g7 : E.size ≤ 60008 := hez.2
        have g8 : q ≤ 480064 := by omega
        have g9 : M0.length ≤ 8 := by omega
        have g10 : s0.size ≤ 480064 := by omega
        obtain ⟨ga, rfl, hcap⟩ : ∃ a, A' = some a ∧ M.length ≤ c' := by
          rcases hroom with h | ⟨a, n, k, h, hnk⟩
          · injection h with _ h2 _
            omega
          · injection h with h1 h2 h3
            subst h2 h3
            exact ⟨a, h1, hnk⟩
        have g11 : M0.length ≤ c' := by omega
        have HMM := Lib.hid (And.intro hMl hcap)
        clear hse hgood hcut hMe hsc0 hsc1 hss hq hex hMl hez hcap hroom
        have hn2 : decide (-(m : Int) - 1 < 0) = true := decide_eq_true (by omega)
        have hn3 : decide ((m : Int) < 0) = false := decide_eq_false (by omega)
        have hn1 : -(m : Int) - 1 + 1 = -(m : Int) := by omega
        have hm63 := HM.out.1
        rcases HM.out.2 with rfl | rfl
        all_goals
          go_wp2_with fail
          (with_reducible refine c1.mono ?_)
          rintro e w1 ⟨Lc, Ac, cc, hLc, rfl, hrow, hb1⟩
          have H1 := Lib.hid (HS.out.later hb1)
          have HSM := Lib.hid (same_scan H1.out (hbs.out _ H1.out) (hin.out _ H1.out.bel) ⟨[], (List.append_nil _).symm⟩ hLc (BtsR.base hrow HS.out.bel.size) HK.out)
          clear hb1 hLc hrow c1 HS
          go_wp2_with fail
          (with_reducible refine HSM.out.mono ?_)
          rintro e w2 ⟨rfl, hb2⟩
          have H2 := Lib.hid (H1.out.later hb2)
          clear hb2 H1 HSM
          go_wp2_with fail
          (with_reducible refine (c2 _ (HT.out _ H2.out.bel)).mono ?_)
          rintro e w3 ⟨Ld, Ad, cd, hLd, rfl, hrow, hb3⟩
          have H3 := Lib.hid (H2.out.later hb3)
          have HSM := Lib.hid (same_scan H3.out (hbs.out _ H3.out) (hin.out _ H3.out.bel) HKP.out hLd (BtsR.base hrow H2.out.bel.size) HK.out)
          clear hb3 hLd hrow c2 H2
          go_wp2_with fail
          (with_reducible refine HSM.out.mono ?_)
          rintro e w4 ⟨rfl, hb4⟩
          have H4 := Lib.hid (H3.out.bel.trans (hb4.mono H3.out.bel.size))
          clear hb4 H3 HSM
          go_wp2_with fail
          (with_reducible refine (live5_c _ (HT.out _ H4.out)).mono ?_)
          rintro e w5 ⟨rfl, hb5⟩
          have H5 := Lib.hid (H4.out.trans (hb5.mono H4.out.size))
          clear hb5
          go_wp2_with fail
          go_ret
          exact ⟨rfl, H5.out⟩
theorem batchBack_walk (L : List BX) (A : Option Addr) (c : Nat) (a1 : Int) (W : World) (hA : BsIn W A L) (hl : ∀ x ∈ L, x.2.1.length ≤ 140737488351232) (w1 : (Lit.int .i64 a1).wf = true) (hT : Tab W) :
    Calls Tryd.prog 6 #[.slice A L.length c, .int .i64 a1] W (Yes W) := by
  have hb1 : -9223372036854775808 ≤ a1 ∧ a1 ≤ 9223372036854775807 := by simpa [Lit.wf, IntKind.min, IntKind.max, IntKind.signed, IntKind.bits] using w1
  clear w1
  obtain ⟨hlo, hhi⟩ := hb1
  by_cases hneg : a1 < 0
  · exact back5_go L A c a1 (-(a1 + 1)).toNat W hA hl (by omega) (.inr (by omega)) hT
  · exact back5_go L A c a1 a1.toNat W hA hl (by omega) (.inl (by omega)) hT
end Go.Proofs.YtmhamfhhojmeoaaDoor
