/- Words of a text, plainly: its letters by their decoded widths, its pieces, folding; no model of memory. No condition. -/
import Derived.Lib.DecodeN
namespace Go.Proofs.YtmnmgbbdjpfonaaDoor.TK
set_option linter.unusedVariables false
open Go.Lib
def bt (L : List UInt8) (i : Nat) : Nat := (L.getD i 0).toNat
def dec (L : List UInt8) (i : Nat) : Nat × Nat := decodeN (L.length - i) (bt L i) (bt L (i + 1)) (bt L (i + 2)) (bt L (i + 3))
def wd (L : List UInt8) (i : Nat) : Nat := (dec L i).2
def asc (c : Nat) : Bool := (decide (97 ≤ c) && decide (c ≤ 122)) || (decide (65 ≤ c) && decide (c ≤ 90)) || (decide (48 ≤ c) && decide (c ≤ 57)) || decide (c = 95)
def isL (L : List UInt8) (i : Nat) : Bool := decide (1 < wd L i) || asc (bt L i)
def lowN (c : Nat) : Nat := if 65 ≤ c ∧ c ≤ 90 then c + 32 else c
def lowB (c : UInt8) : UInt8 := UInt8.ofNat (lowN c.toNat)
def foldL (L : List UInt8) : List UInt8 := L.map lowB
def piece (L : List UInt8) (a b : Nat) : List UInt8 := (L.drop a).take (b - a)
theorem bt_lt (L : List UInt8) (i : Nat) : bt L i < 256 := UInt8.toNat_lt _
theorem lowN_lt {c : Nat} (h : c < 256) : lowN c < 256 := by unfold lowN; split <;> omega
theorem lowB_nat (c : UInt8) : (lowB c).toNat = lowN c.toNat := by
  unfold lowB; rw [UInt8.toNat_ofNat_of_lt']; exact lowN_lt (UInt8.toNat_lt c)
theorem foldL_length (L : List UInt8) : (foldL L).length = L.length := by simp [foldL]
theorem bt_fold (L : List UInt8) (i : Nat) : bt (foldL L) i = lowN (bt L i) := by
  unfold bt foldL
  simp only [List.getD_eq_getElem?_getD, List.getElem?_map]
  cases h : L[i]? with
  | none => simp [lowN]
  | some c => simp [lowB_nat]
set_option maxHeartbeats 2000000 in
theorem decN_width (n b0 b1 b2 b3 : Nat) : 1 ≤ (decodeN n b0 b1 b2 b3).2 ∧ (decodeN n b0 b1 b2 b3).2 ≤ 4 ∧ (1 < (decodeN n b0 b1 b2 b3).2 → (decodeN n b0 b1 b2 b3).2 ≤ n ∧ 128 ≤ b0 ∧ 128 ≤ (decodeN n b0 b1 b2 b3).1) ∧ ((decodeN n b0 b1 b2 b3).2 = 1 → (b0 < 128 ∧ (decodeN n b0 b1 b2 b3).1 = b0) ∨ (128 ≤ b0 ∧ (decodeN n b0 b1 b2 b3).1 = 65533)) := by
  unfold decodeN
  repeat' split
  all_goals
    refine ⟨?_, ?_, ?_, ?_⟩
    all_goals (simp only; first | omega | (intro hh; first | omega | (refine ⟨?_, ?_, ?_⟩ <;> omega) | (simp; omega)))
theorem wd_pos (L : List UInt8) (i : Nat) : 1 ≤ wd L i := (decN_width _ _ _ _ _).1
theorem wd_le (L : List UInt8) (i : Nat) (h : i < L.length) : i + wd L i ≤ L.length := by
  have h1 := decN_width (L.length - i) (bt L i) (bt L (i + 1)) (bt L (i + 2)) (bt L (i + 3))
  have e : wd L i = (decodeN (L.length - i) (bt L i) (bt L (i + 1)) (bt L (i + 2)) (bt L (i + 3))).2 := rfl
  rw [← e] at h1
  by_cases hw : 1 < wd L i
  · have := (h1.2.2.1 hw).1; omega
  · omega
theorem isL_no {L : List UInt8} {i : Nat} (h : isL L i = false) : wd L i = 1 := by
  unfold isL at h
  simp only [Bool.or_eq_false_iff, decide_eq_false_iff_not] at h
  have := wd_pos L i
  omega
def pcs (L : List UInt8) (i b : Nat) : List (Nat × Nat) :=
  if _h : i < L.length then
    if isL L i then pcs L (i + wd L i) b
    else (if b < i then [(b, i)] else []) ++ pcs L (i + 1) (i + 1)
  else if b < L.length then [(b, L.length)] else []
termination_by L.length - i
decreasing_by
  · have := wd_pos L i; omega
  · omega
theorem pcs_let {L : List UInt8} {i : Nat} (b : Nat) (h : i < L.length) (hl : isL L i = true) : pcs L i b = pcs L (i + wd L i) b := by
  rw [pcs.eq_1 L i b, dif_pos h, if_pos hl]
theorem pcs_non {L : List UInt8} {i : Nat} (b : Nat) (h : i < L.length) (hl : isL L i = false) : pcs L i b = (if b < i then [(b, i)] else []) ++ pcs L (i + 1) (i + 1) := by
  rw [pcs.eq_1 L i b, dif_pos h, if_neg (by rw [hl]; decide)]
theorem pcs_end {L : List UInt8} {i : Nat} (b : Nat) (h : ¬ i < L.length) : pcs L i b = if b < L.length then [(b, L.length)] else [] := by
  rw [pcs.eq_1 L i b, dif_neg h]
def words (L : List UInt8) : List (List UInt8) := (pcs L 0 0).map fun p => foldL (piece L p.1 p.2)
def rawp (L : List UInt8) : List (List UInt8) := (pcs L 0 0).map fun p => piece L p.1 p.2
-- folding turns no letter into something else
set_option maxHeartbeats 4000000 in
theorem decN_low (n b0 b1 b2 b3 : Nat) (h0 : b0 < 256) (h1 : b1 < 256) (h2 : b2 < 256) (h3 : b3 < 256) : (decodeN n (lowN b0) (lowN b1) (lowN b2) (lowN b3)).2 = (decodeN n b0 b1 b2 b3).2 := by
  have k : ∀ b, b < 256 → (lowN b < 128 ∧ b < 128) ∨ (lowN b = b ∧ 128 ≤ b) := fun b hb => by unfold lowN; split <;> omega
  rcases k b0 h0 with ⟨x, y⟩ | ⟨x, y⟩
  · unfold decodeN; simp [x, y]
  · have f : ∀ b, b < 256 → (lowN b / 64 = 2 ↔ b / 64 = 2) := fun b hb => by rcases k b hb with ⟨p, q⟩ | ⟨p, q⟩ <;> omega
    have g : ∀ b, b < 256 → b / 64 = 2 → lowN b = b := fun b hb e => by rcases k b hb with ⟨p, q⟩ | ⟨p, q⟩ <;> omega
    rw [x]
    by_cases e1 : b1 / 64 = 2
    · rw [g b1 h1 e1]
      by_cases e2 : b2 / 64 = 2
      · rw [g b2 h2 e2]
        by_cases e3 : b3 / 64 = 2
        · rw [g b3 h3 e3]
        · have e3' : ¬ lowN b3 / 64 = 2 := fun c => e3 ((f b3 h3).1 c)
          unfold decodeN
          simp only [e3, e3', and_false, ↓reduceIte]
      · have e2' : ¬ lowN b2 / 64 = 2 := fun c => e2 ((f b2 h2).1 c)
        unfold decodeN
        simp only [e2, e2', and_false, false_and, ↓reduceIte]
    · have e1' : ¬ lowN b1 / 64 = 2 := fun c => e1 ((f b1 h1).1 c)
      unfold decodeN
      simp only [e1, e1', and_false, false_and, ↓reduceIte]
theorem wd_fold (L : List UInt8) (i : Nat) : wd (foldL L) i = wd L i := by
  unfold wd dec
  rw [foldL_length, bt_fold, bt_fold, bt_fold, bt_fold]
  exact decN_low _ _ _ _ _ (bt_lt _ _) (bt_lt _ _) (bt_lt _ _) (bt_lt _ _)
theorem asc_low (c : Nat) : asc (lowN c) = asc c := by
  rw [Bool.eq_iff_iff]
  unfold asc lowN
  simp only [Bool.or_eq_true, Bool.and_eq_true, decide_eq_true_eq]
  split <;> omega
theorem isL_fold (L : List UInt8) (i : Nat) : isL (foldL L) i = isL L i := by
  unfold isL
  rw [wd_fold, bt_fold, asc_low]
theorem pcs_fold (L : List UInt8) : ∀ (k i b : Nat), L.length - i ≤ k → pcs (foldL L) i b = pcs L i b := by
  intro k
  induction k with
  | zero =>
    intro i b h
    rw [pcs_end b (by rw [foldL_length]; omega), pcs_end b (by omega), foldL_length]
  | succ k ih =>
    intro i b h
    by_cases hi : i < L.length
    · have hi' : i < (foldL L).length := by rw [foldL_length]; exact hi
      have := wd_pos L i
      cases hl : isL L i with
      | true => rw [pcs_let b hi hl, pcs_let b hi' (by rw [isL_fold]; exact hl), wd_fold, ih _ _ (by omega)]
      | false => rw [pcs_non b hi hl, pcs_non b hi' (by rw [isL_fold]; exact hl), ih _ _ (by omega)]
    · rw [pcs_end b (by rw [foldL_length]; omega), pcs_end b (by omega), foldL_length]
theorem lowN_idem (c : Nat) : lowN (lowN c) = lowN c := by unfold lowN; split <;> (try split) <;> omega
theorem lowB_idem (c : UInt8) : lowB (lowB c) = lowB c := by
  apply UInt8.toNat_inj.1; rw [lowB_nat, lowB_nat, lowN_idem]
theorem foldL_idem (L : List UInt8) : foldL (foldL L) = foldL L := by simp [foldL, lowB_idem]
theorem piece_fold (L : List UInt8) (a b : Nat) : piece (foldL L) a b = foldL (piece L a b) := by simp [piece, foldL, List.map_take, List.map_drop]
theorem words_fold (L : List UInt8) : words (foldL L) = words L := by
  unfold words
  rw [pcs_fold L _ 0 0 (Nat.le_refl _)]
  refine List.map_congr_left fun p _ => ?_
  rw [piece_fold, foldL_idem]
theorem rawp_fold (L : List UInt8) : rawp (foldL L) = words L := by
  unfold rawp words
  rw [pcs_fold L _ 0 0 (Nat.le_refl _)]
  exact List.map_congr_left fun p _ => piece_fold L _ _
theorem mem_pcs_le (L : List UInt8) : ∀ (k i b : Nat), L.length - i ≤ k → i ≤ L.length → ∀ p ∈ pcs L i b, b ≤ p.1 ∧ p.1 < p.2 ∧ p.2 ≤ L.length ∨ i ≤ p.1 ∧ p.1 < p.2 ∧ p.2 ≤ L.length := by
  intro k
  induction k with
  | zero =>
    intro i b h hi p hp
    rw [pcs_end b (by omega)] at hp
    split at hp
    · simp at hp; subst hp; simp; omega
    · simp at hp
  | succ k ih =>
    intro i b h hle p hp
    by_cases hi : i < L.length
    · have hw := wd_pos L i
      have hw2 := wd_le L i hi
      cases hl : isL L i with
      | true =>
        rw [pcs_let b hi hl] at hp
        rcases ih _ b (by omega) hw2 p hp with h1 | h1
        · exact .inl h1
        · exact .inr (by omega)
      | false =>
        rw [pcs_non b hi hl, List.mem_append] at hp
        rcases hp with hp | hp
        · split at hp
          · simp at hp; subst hp; simp; omega
          · simp at hp
        · rcases ih _ (i + 1) (by omega) (by omega) p hp with h1 | h1 <;> exact .inr (by omega)
    · rw [pcs_end b (by omega)] at hp
      split at hp
      · simp at hp; subst hp; simp; omega
      · simp at hp
theorem mem_pcs {L : List UInt8} {p : Nat × Nat} (h : p ∈ pcs L 0 0) : p.1 < p.2 ∧ p.2 ≤ L.length := by
  rcases mem_pcs_le L _ 0 0 (Nat.le_refl _) (Nat.zero_le _) p h with h | h <;> omega
theorem pcs_count (L : List UInt8) : ∀ (k i b : Nat), L.length - i ≤ k → b ≤ i → i ≤ L.length → (pcs L i b).length + b ≤ L.length := by
  intro k
  induction k with
  | zero =>
    intro i b h hb hi
    rw [pcs_end b (by omega)]
    split <;> simp <;> omega
  | succ k ih =>
    intro i b h hb hle
    by_cases hi : i < L.length
    · have hw := wd_pos L i
      have hw2 := wd_le L i hi
      cases hl : isL L i with
      | true => rw [pcs_let b hi hl]; exact ih _ b (by omega) (by omega) hw2
      | false =>
        rw [pcs_non b hi hl]
        have := ih (i + 1) (i + 1) (by omega) (Nat.le_refl _) (by omega)
        simp only [List.length_append]
        split <;> simp <;> omega
    · rw [pcs_end b (by omega)]
      split <;> simp <;> omega
theorem words_count (L : List UInt8) : (words L).length ≤ L.length := by
  have := pcs_count L _ 0 0 (Nat.le_refl _) (Nat.le_refl _) (Nat.zero_le _)
  unfold words
  rw [List.length_map]
  omega
-- runs of letters
inductive Run (L : List UInt8) (e : Nat) : Nat → Prop
  | nil : Run L e e
  | cons {a : Nat} : a < L.length → isL L a = true → Run L e (a + wd L a) → Run L e a
theorem Run.snoc {L : List UInt8} {e a : Nat} (h : Run L e a) (he : e < L.length) (hl : isL L e = true) : Run L (e + wd L e) a := by
  induction h with
  | nil => exact .cons he hl .nil
  | cons h1 h2 _ ih => exact .cons h1 h2 ih
theorem Run.le {L : List UInt8} {e a : Nat} (h : Run L e a) : a ≤ e := by
  induction h with
  | nil => exact Nat.le_refl _
  | cons h1 h2 _ ih => omega
theorem run_of_mem (L : List UInt8) : ∀ (k i b : Nat), L.length - i ≤ k → i ≤ L.length → Run L i b → ∀ p ∈ pcs L i b, Run L p.2 p.1 := by
  intro k
  induction k with
  | zero =>
    intro i b h hi hr p hp
    rw [pcs_end b (by omega)] at hp
    have : i = L.length := by omega
    split at hp
    · simp at hp; subst hp; rw [← this]; exact hr
    · simp at hp
  | succ k ih =>
    intro i b h hle hr p hp
    by_cases hi : i < L.length
    · have hw := wd_pos L i
      have hw2 := wd_le L i hi
      cases hl : isL L i with
      | true =>
        rw [pcs_let b hi hl] at hp
        exact ih _ b (by omega) hw2 (hr.snoc hi hl) p hp
      | false =>
        rw [pcs_non b hi hl, List.mem_append] at hp
        rcases hp with hp | hp
        · split at hp
          · simp at hp; subst hp; exact hr
          · simp at hp
        · exact ih _ (i + 1) (by omega) (by omega) .nil p hp
    · rw [pcs_end b (by omega)] at hp
      have : i = L.length := by omega
      split at hp
      · simp at hp; subst hp; rw [← this]; exact hr
      · simp at hp
set_option maxHeartbeats 4000000 in
theorem decN_cut (n m b0 b1 b2 b3 c1 c2 c3 : Nat) (h : 1 < (decodeN n b0 b1 b2 b3).2) (hm : (decodeN n b0 b1 b2 b3).2 ≤ m) (e1 : c1 = b1) (e2 : 2 < (decodeN n b0 b1 b2 b3).2 → c2 = b2) (e3 : 3 < (decodeN n b0 b1 b2 b3).2 → c3 = b3) :
    (decodeN m b0 c1 c2 c3).2 = (decodeN n b0 b1 b2 b3).2 := by
  subst e1
  by_cases x0 : b0 < 128
  · exfalso; unfold decodeN at h; simp [x0] at h
  by_cases x1 : b0 / 32 = 6 ∧ (1 < n ∧ c1 / 64 = 2)
  · have : (decodeN n b0 c1 b2 b3).2 = (if b0 % 32 * 64 + c1 % 64 ≥ 128 then 2 else 1) := by
      unfold decodeN; rw [if_neg x0, if_pos x1]; split <;> rfl
    rw [this] at h hm ⊢
    have hm' : 1 < m := by omega
    unfold decodeN
    rw [if_neg x0, if_pos ⟨x1.1, hm', x1.2.2⟩]
    split <;> rfl
  · by_cases x2 : b0 / 16 = 14 ∧ (1 < n ∧ c1 / 64 = 2) ∧ (2 < n ∧ b2 / 64 = 2)
    · have y1 : ∀ z, ¬ (b0 / 32 = 6 ∧ z) := fun z hz => by omega
      have : (decodeN n b0 c1 b2 b3).2 = (if b0 % 16 * 4096 + c1 % 64 * 64 + b2 % 64 ≥ 2048 ∧ (b0 % 16 * 4096 + c1 % 64 * 64 + b2 % 64 < 55296 ∨ (57344 ≤ b0 % 16 * 4096 + c1 % 64 * 64 + b2 % 64 ∧ b0 % 16 * 4096 + c1 % 64 * 64 + b2 % 64 ≤ 1114111)) then 3 else 1) := by
        unfold decodeN; rw [if_neg x0, if_neg x1, if_pos x2]; split <;> rfl
      rw [this] at h hm e2 ⊢
      split at h
      · rename_i hc
        rw [if_pos hc] at hm e2 ⊢
        have := e2 (by omega); subst this
        unfold decodeN
        rw [if_neg x0, if_neg (y1 _), if_pos ⟨x2.1, ⟨by omega, x2.2.1.2⟩, by omega, x2.2.2.2⟩, if_pos hc]
      · omega
    · by_cases x3 : b0 / 8 = 30 ∧ (1 < n ∧ c1 / 64 = 2) ∧ (2 < n ∧ b2 / 64 = 2) ∧ (3 < n ∧ b3 / 64 = 2)
      · have y1 : ∀ z, ¬ (b0 / 32 = 6 ∧ z) := fun z hz => by omega
        have y2 : ∀ z, ¬ (b0 / 16 = 14 ∧ z) := fun z hz => by omega
        have : (decodeN n b0 c1 b2 b3).2 = (if b0 % 8 * 262144 + c1 % 64 * 4096 + b2 % 64 * 64 + b3 % 64 ≥ 65536 ∧ (b0 % 8 * 262144 + c1 % 64 * 4096 + b2 % 64 * 64 + b3 % 64 < 55296 ∨ (57344 ≤ b0 % 8 * 262144 + c1 % 64 * 4096 + b2 % 64 * 64 + b3 % 64 ∧ b0 % 8 * 262144 + c1 % 64 * 4096 + b2 % 64 * 64 + b3 % 64 ≤ 1114111)) then 4 else 1) := by
          unfold decodeN; rw [if_neg x0, if_neg x1, if_neg x2, if_pos x3]; split <;> rfl
        rw [this] at h hm e2 e3 ⊢
        split at h
        · rename_i hc
          rw [if_pos hc] at hm e2 e3 ⊢
          have := e2 (by omega); subst this
          have := e3 (by omega); subst this
          unfold decodeN
          rw [if_neg x0, if_neg (y1 _), if_neg (y2 _), if_pos ⟨x3.1, ⟨by omega, x3.2.1.2⟩, ⟨by omega, x3.2.2.1.2⟩, by omega, x3.2.2.2.2⟩, if_pos hc]
        · omega
      · exfalso; unfold decodeN at h; rw [if_neg x0, if_neg x1, if_neg x2, if_neg x3] at h; simp at h
theorem piece_length {L : List UInt8} {a e : Nat} (he : e ≤ L.length) : (piece L a e).length = e - a := by
  unfold piece; rw [List.length_take, List.length_drop]; omega
theorem bt_piece {L : List UInt8} {a e j : Nat} (h : a + j < e) : bt (piece L a e) j = bt L (a + j) := by
  unfold bt piece
  simp only [List.getD_eq_getElem?_getD, List.getElem?_take, List.getElem?_drop]
  rw [if_pos (by omega)]
theorem asc_lt {c : Nat} (h : asc c = true) : c < 128 := by
  unfold asc at h
  simp only [Bool.or_eq_true, Bool.and_eq_true, decide_eq_true_eq] at h
  omega
theorem wd_asc {L : List UInt8} {i : Nat} (h : bt L i < 128) : wd L i = 1 := by
  unfold wd dec decodeN; rw [if_pos h]
theorem wd_piece {L : List UInt8} {a e j : Nat} (he : e ≤ L.length) (hj : a + j < e) (hl : isL L (a + j) = true) (hw : a + j + wd L (a + j) ≤ e) : wd (piece L a e) j = wd L (a + j) ∧ isL (piece L a e) j = true := by
  by_cases hb : bt L (a + j) < 128
  · have h1 := wd_asc hb
    have h2 : wd (piece L a e) j = 1 := wd_asc (by rw [bt_piece hj]; exact hb)
    refine ⟨by rw [h1, h2], ?_⟩
    unfold isL at hl ⊢
    rw [h2, bt_piece hj]
    rw [h1] at hl
    exact hl
  · have h0 : 1 < wd L (a + j) := by
      unfold isL at hl
      simp only [Bool.or_eq_true, decide_eq_true_eq] at hl
      rcases hl with h | h
      · exact h
      · exact absurd (asc_lt h) hb
    have hk : ∀ k, k < wd L (a + j) → bt (piece L a e) (j + k) = bt L (a + j + k) := fun k hk => by rw [bt_piece (by omega), Nat.add_assoc]
    have h3 : wd (piece L a e) j = wd L (a + j) := by
      show (decodeN _ _ _ _ _).2 = _
      rw [piece_length he, bt_piece hj]
      refine decN_cut (L.length - (a + j)) _ _ (bt L (a + j + 1)) (bt L (a + j + 2)) (bt L (a + j + 3)) _ _ _ h0 ?_ (hk 1 h0) (fun h => hk 2 h) (fun h => hk 3 h)
      show wd L (a + j) ≤ _
      omega
    refine ⟨h3, ?_⟩
    unfold isL
    rw [h3]
    simp [h0]
theorem pcs_piece {L : List UInt8} {a e : Nat} (he : e ≤ L.length) (hae : a < e) : ∀ {x : Nat}, Run L e x → ∀ j, x = a + j → pcs (piece L a e) j 0 = [(0, e - a)] := by
  intro x h
  induction h with
  | nil =>
    intro j hj
    rw [pcs_end 0 (by rw [piece_length he]; omega), piece_length he, if_pos (by omega)]
  | cons h1 h2 h3 ih =>
    intro j hj
    subst hj
    have hle := h3.le
    have hw := wd_pos L (a + j)
    have hp := wd_piece he (by omega) h2 hle
    rw [pcs_let 0 (by rw [piece_length he]; omega) hp.2, hp.1]
    exact ih _ (by omega)
theorem words_one {L w : List UInt8} (h : w ∈ words L) : words w = [w] ∧ foldL w = w := by
  unfold words at h
  rw [List.mem_map] at h
  obtain ⟨p, hp, rfl⟩ := h
  have hm := mem_pcs hp
  refine ⟨?_, foldL_idem _⟩
  rw [words_fold]
  have := pcs_piece hm.2 hm.1 (run_of_mem L _ 0 0 (Nat.le_refl _) (Nat.zero_le _) .nil p hp) 0 (by omega)
  unfold words
  rw [this]
  simp only [List.map_cons, List.map_nil]
  congr 2
  unfold piece
  simp [List.take_take]
-- two texts with a blank between them
set_option maxHeartbeats 4000000 in
theorem decN_stop (m n b0 b1 b2 b3 c1 c2 c3 : Nat) (hm : 1 ≤ m) (hn : m < n) (k1 : 1 < m → c1 = b1) (k2 : 2 < m → c2 = b2) (k3 : 3 < m → c3 = b3) (s1 : m = 1 → c1 = 32) (s2 : m = 2 → c2 = 32) (s3 : m = 3 → c3 = 32) : (decodeN n b0 c1 c2 c3).2 = (decodeN m b0 b1 b2 b3).2 := by
  by_cases h1 : m = 1
  · have := s1 h1; subst this; subst h1
    unfold decodeN
    simp
  · have := k1 (by omega); subst this
    by_cases h2 : m = 2
    · have := s2 h2; subst this; subst h2
      have : 1 < n := by omega
      unfold decodeN
      simp [this]
    · have := k2 (by omega); subst this
      by_cases h3 : m = 3
      · have := s3 h3; subst this; subst h3
        have a1 : 1 < n := by omega
        have a2 : 2 < n := by omega
        unfold decodeN
        simp [a1, a2]
      · have := k3 (by omega); subst this
        have a1 : 1 < n := by omega
        have a2 : 2 < n := by omega
        have a3 : 3 < n := by omega
        have d1 : 1 < m := by omega
        have d2 : 2 < m := by omega
        have d3 : 3 < m := by omega
        unfold decodeN
        simp [a1, a2, a3, d1, d2, d3]
def join2 (A B : List UInt8) : List UInt8 := A ++ 32 :: B
theorem bt_join_l {A B : List UInt8} {i : Nat} (h : i < A.length) : bt (join2 A B) i = bt A i := by
  unfold bt join2; simp [List.getD_eq_getElem?_getD, List.getElem?_append_left h]
theorem bt_join_m {A B : List UInt8} : bt (join2 A B) A.length = 32 := by
  unfold bt join2; simp [List.getD_eq_getElem?_getD]
theorem bt_join_r {A B : List UInt8} {i : Nat} : bt (join2 A B) (A.length + 1 + i) = bt B i := by
  unfold bt join2
  simp only [List.getD_eq_getElem?_getD]
  rw [List.getElem?_append_right (by omega)]
  rw [show A.length + 1 + i - A.length = i + 1 by omega]
  simp
theorem join_len (A B : List UInt8) : (join2 A B).length = A.length + 1 + B.length := by unfold join2; simp; omega
theorem wd_join_l {A B : List UInt8} {i : Nat} (h : i < A.length) : wd (join2 A B) i = wd A i := by
  unfold wd dec
  rw [bt_join_l h]
  refine decN_stop (A.length - i) _ _ _ _ _ _ _ _ (by omega) (by rw [join_len]; omega) (fun h => bt_join_l (by omega)) (fun h => bt_join_l (by omega)) (fun h => bt_join_l (by omega)) (fun h => ?_) (fun h => ?_) (fun h => ?_)
  · rw [show i + 1 = A.length by omega]; exact bt_join_m
  · rw [show i + 2 = A.length by omega]; exact bt_join_m
  · rw [show i + 3 = A.length by omega]; exact bt_join_m
theorem isL_join_l {A B : List UInt8} {i : Nat} (h : i < A.length) : isL (join2 A B) i = isL A i := by
  unfold isL; rw [wd_join_l h, bt_join_l h]
theorem wd_join_r {A B : List UInt8} {i : Nat} : wd (join2 A B) (A.length + 1 + i) = wd B i := by
  unfold wd dec
  rw [bt_join_r, Nat.add_assoc (A.length + 1), Nat.add_assoc (A.length + 1), Nat.add_assoc (A.length + 1), bt_join_r, bt_join_r, bt_join_r, join_len]
  rw [show A.length + 1 + B.length - (A.length + 1 + i) = B.length - i by omega]
theorem isL_join_r {A B : List UInt8} {i : Nat} : isL (join2 A B) (A.length + 1 + i) = isL B i := by
  unfold isL; rw [wd_join_r, bt_join_r]
theorem isL_join_m {A B : List UInt8} : isL (join2 A B) A.length = false := by
  unfold isL
  rw [wd_asc (by rw [bt_join_m]; decide), bt_join_m]
  decide
theorem pcs_join_l (A B : List UInt8) : ∀ (k i b : Nat), A.length - i ≤ k → i ≤ A.length → pcs (join2 A B) i b = pcs A i b ++ pcs (join2 A B) (A.length + 1) (A.length + 1) := by
  have fin : ∀ b, pcs (join2 A B) A.length b = pcs A A.length b ++ pcs (join2 A B) (A.length + 1) (A.length + 1) := fun b => by
    rw [pcs_non b (by rw [join_len]; omega) isL_join_m, pcs_end (L := A) b (by omega)]
  intro k
  induction k with
  | zero =>
    intro i b h hi
    obtain rfl : i = A.length := by omega
    exact fin b
  | succ k ih =>
    intro i b h hle
    by_cases hi : i < A.length
    · have hw := wd_pos A i
      have hw2 := wd_le A i hi
      have hi' : i < (join2 A B).length := by rw [join_len]; omega
      cases hl : isL A i with
      | true => rw [pcs_let b hi hl, pcs_let b hi' (by rw [isL_join_l hi]; exact hl), wd_join_l hi, ih _ _ (by omega) hw2]
      | false => rw [pcs_non b hi hl, pcs_non b hi' (by rw [isL_join_l hi]; exact hl), ih _ _ (by omega) (by omega), List.append_assoc]
    · obtain rfl : i = A.length := by omega
      exact fin b
theorem pcs_join_r (A B : List UInt8) : ∀ (k i b : Nat), B.length - i ≤ k → pcs (join2 A B) (A.length + 1 + i) (A.length + 1 + b) = (pcs B i b).map fun p => (A.length + 1 + p.1, A.length + 1 + p.2) := by
  have fin : ∀ i b, ¬ i < B.length → pcs (join2 A B) (A.length + 1 + i) (A.length + 1 + b) = (pcs B i b).map fun p => (A.length + 1 + p.1, A.length + 1 + p.2) := fun i b hi => by
    rw [pcs_end _ (by rw [join_len]; omega), pcs_end b hi, join_len]
    by_cases hb : b < B.length
    · rw [if_pos (by omega), if_pos hb]; rfl
    · rw [if_neg (by omega), if_neg hb]; rfl
  intro k
  induction k with
  | zero => intro i b h; exact fin i b (by omega)
  | succ k ih =>
    intro i b h
    by_cases hi : i < B.length
    · have hw := wd_pos B i
      have hi' : A.length + 1 + i < (join2 A B).length := by rw [join_len]; omega
      cases hl : isL B i with
      | true => rw [pcs_let b hi hl, pcs_let _ hi' (by rw [isL_join_r]; exact hl), wd_join_r, Nat.add_assoc (A.length + 1), ih _ _ (by omega)]
      | false =>
        rw [pcs_non b hi hl, pcs_non _ hi' (by rw [isL_join_r]; exact hl), Nat.add_assoc (A.length + 1), ih _ _ (by omega), List.map_append]
        congr 1
        by_cases hb : b < i
        · rw [if_pos (by omega), if_pos hb]; rfl
        · rw [if_neg (by omega), if_neg hb]; rfl
    · exact fin i b hi
theorem piece_join_l {A B : List UInt8} {a e : Nat} (he : e ≤ A.length) : piece (join2 A B) a e = piece A a e := by
  unfold piece join2
  by_cases ha : a ≤ A.length
  · rw [List.drop_append_of_le_length ha, List.take_append_of_le_length (by simp; omega)]
  · rw [show e - a = 0 by omega]; simp
theorem piece_join_r {A B : List UInt8} {a e : Nat} : piece (join2 A B) (A.length + 1 + a) (A.length + 1 + e) = piece B a e := by
  unfold piece join2
  rw [show A.length + 1 + e - (A.length + 1 + a) = e - a by omega]
  congr 1
  rw [show A.length + 1 + a = A.length + (a + 1) by omega, ← List.drop_drop, List.drop_left]
  rfl
theorem words_join (A B : List UInt8) : words (join2 A B) = words A ++ words B := by
  have h2 := pcs_join_r A B _ 0 0 (Nat.le_refl _)
  rw [Nat.add_zero] at h2
  unfold words
  rw [pcs_join_l A B _ 0 0 (Nat.le_refl _) (Nat.zero_le _), h2, List.map_append, List.map_map]
  congr 1
  · refine List.map_congr_left fun p hp => ?_
    rw [piece_join_l (mem_pcs hp).2]
  · refine List.map_congr_left fun p hp => ?_
    show foldL (piece (join2 A B) (A.length + 1 + p.1) (A.length + 1 + p.2)) = _
    rw [piece_join_r]
-- no letter at all
theorem pcs_none {L : List UInt8} (h : ∀ i, i < L.length → isL L i = false) : ∀ (k i : Nat), L.length - i ≤ k → pcs L i i = [] := by
  intro k
  induction k with
  | zero => intro i hi; rw [pcs_end i (by omega), if_neg (by omega)]
  | succ k ih =>
    intro i hi
    by_cases hlt : i < L.length
    · rw [pcs_non i hlt (h i hlt), if_neg (by omega), ih _ (by omega)]; rfl
    · rw [pcs_end i hlt, if_neg hlt]
theorem words_none {L : List UInt8} (h : ∀ i, i < L.length → bt (foldL L) i < 128 ∧ asc (bt (foldL L) i) = false) : words L = [] := by
  unfold words
  rw [pcs_none (fun i hi => ?_) _ 0 (Nat.le_refl _)]
  · rfl
  · rw [← isL_fold]
    unfold isL
    rw [wd_asc (h i hi).1, (h i hi).2]
    decide
-- the same with fuel, for texts that are written out
def pcsF : Nat → List UInt8 → Nat → Nat → List (Nat × Nat)
  | 0, _, _, _ => []
  | f + 1, L, i, b =>
    if i < L.length then
      if isL L i then pcsF f L (i + wd L i) b
      else (if b < i then [(b, i)] else []) ++ pcsF f L (i + 1) (i + 1)
    else if b < L.length then [(b, L.length)] else []
theorem pcsF_eq (L : List UInt8) : ∀ (f i b : Nat), L.length - i < f → pcs L i b = pcsF f L i b := by
  intro f
  induction f with
  | zero => intro i b h; omega
  | succ f ih =>
    intro i b h
    unfold pcsF
    by_cases hi : i < L.length
    · rw [if_pos hi]
      have := wd_pos L i
      cases hl : isL L i with
      | true => rw [pcs_let b hi hl, if_pos rfl, ih _ _ (by omega)]
      | false => rw [pcs_non b hi hl, ih _ _ (by omega)]; rfl
    · rw [pcs_end b hi, if_neg hi]
theorem wordsF (L : List UInt8) (f : Nat) (h : L.length < f) : words L = (pcsF f L 0 0).map fun p => foldL (piece L p.1 p.2) := by
  unfold words
  rw [pcsF_eq L f 0 0 (by omega)]
theorem words_foo : words [70, 111, 111, 44, 32, 98, 97, 114, 57, 32, 70, 79, 79] = [[102, 111, 111], [98, 97, 114, 57], [102, 111, 111]] := by
  rw [wordsF _ 20 (by decide)]
  decide +kernel
theorem words_foo2 : words [70, 111, 111, 44, 32, 98, 97, 114, 57] = [[102, 111, 111], [98, 97, 114, 57]] := by
  rw [wordsF _ 20 (by decide)]
  decide +kernel
theorem words_bar : words [98, 97, 114, 57] = [[98, 97, 114, 57]] := by
  rw [wordsF _ 20 (by decide)]
  decide +kernel
end Go.Proofs.YtmnmgbbdjpfonaaDoor.TK
