/- expr: filters as texts, in plain words: what is read, what is printed, there and back, cut off. No condition. -/
import Derived.Test.YtneholfghffpfaaExMath
import Derived.Test.YtneholfghffpfaaExRd
import Derived.Test.YtneholfghffpfaaRd
namespace Go.Proofs.Ytneholfghffpfaa
open Go.RowKit
set_option linter.unusedVariables false
/-- What stands ahead of the kids, how many kids there are, and where the reader is then. -/
structure Head where
  op : Int
  name : ByteArray
  value : ByteArray
  kids : Int
  p : Int
  n : Int
  e : Int
def manyK (k : Int) : Bool := decide (2 ≤ k) && decide (k ≤ 30)
def headG (s : ByteArray) (ok : Bool) (p n : Int) : Head :=
  let op := (byteG s p 0).1
  let p1 := (byteG s p 0).2.1
  let e2 := demG (byteG s p 0).2.2 (decide (n + 1 ≤ 30) && ok)
  if op = 0 then ⟨op, ⟨#[]⟩, ⟨#[]⟩, 0, p1, n + 1, e2⟩
  else if op = 1 ∨ op = 2 then ⟨op, ⟨#[]⟩, ⟨#[]⟩, (byteG s p1 e2).1, (byteG s p1 e2).2.1, n + 1, demG (byteG s p1 e2).2.2 (manyK (byteG s p1 e2).1)⟩
  else if op = 3 then ⟨op, ⟨#[]⟩, ⟨#[]⟩, 1, p1, n + 1, e2⟩
  else if op = 4 then ⟨op, (rdT s 1000 p1 e2).1, ⟨#[]⟩, 0, (rdT s 1000 p1 e2).2.1, n + 1, (rdT s 1000 p1 e2).2.2⟩
  else if op = 5 then ⟨op, (rdT s 1000 p1 e2).1, (rdT s 1000 (rdT s 1000 p1 e2).2.1 (rdT s 1000 p1 e2).2.2).1, 0, (rdT s 1000 (rdT s 1000 p1 e2).2.1 (rdT s 1000 p1 e2).2.2).2.1, n + 1, (rdT s 1000 (rdT s 1000 p1 e2).2.1 (rdT s 1000 p1 e2).2.2).2.2⟩
  else if op = 6 ∨ op = 7 then ⟨op, ⟨#[]⟩, (rdT s 1000 p1 e2).1, 0, (rdT s 1000 p1 e2).2.1, n + 1, (rdT s 1000 p1 e2).2.2⟩
  else ⟨op, ⟨#[]⟩, ⟨#[]⟩, 0, p1, n + 1, demG e2 false⟩
/-- The kids, one behind the other, up to the first error. -/
def loopG (g : Int → Int → Tr × Int × Int × Int) : Nat → Int → Int → Int → List Tr × Int × Int × Int
  | 0, p, n, e => ([], p, n, e)
  | k + 1, p, n, e => if e = 0 then
      ((g p n).1 :: (loopG g k (g p n).2.1 (g p n).2.2.1 (g p n).2.2.2).1, (loopG g k (g p n).2.1 (g p n).2.2.1 (g p n).2.2.2).2)
    else ([], p, n, e)
def wrapG (h : Head) (l : List Tr × Int × Int × Int) : Tr × Int × Int × Int := (.mk h.op h.name h.value l.1, l.2)
def partG (s : ByteArray) : Nat → Int → Int → Tr × Int × Int × Int
  | 0, p, n => wrapG (headG s false p n) ([], (headG s false p n).p, (headG s false p n).n, (headG s false p n).e)
  | f + 1, p, n => wrapG (headG s true p n) (loopG (partG s f) (headG s true p n).kids.toNat (headG s true p n).p (headG s true p n).n (headG s true p n).e)
theorem loopG_err {g : Int → Int → Tr × Int × Int × Int} {k : Nat} {p n e : Int} (h : e ≠ 0) : loopG g k p n e = ([], p, n, e) := by
  cases k with
  | zero => rfl
  | succ k => rw [loopG, if_neg h]
theorem loopG_len (g : Int → Int → Tr × Int × Int × Int) : ∀ (k : Nat) (p n e : Int), (loopG g k p n e).1.length ≤ k
  | 0, _, _, _ => by simp [loopG]
  | k + 1, p, n, e => by
    rw [loopG]
    split
    · simp only [List.length_cons]
      have := loopG_len g k (g p n).2.1 (g p n).2.2.1 (g p n).2.2.2
      omega
    · simp
theorem demG_zero {e : Int} {r : Bool} : demG e r = 0 ↔ e = 0 ∧ r = true := by
  unfold demG
  cases r with
  | true => simp
  | false =>
    by_cases h : e = 0
    · rw [if_pos ⟨h, rfl⟩]; simp
    · rw [if_neg (fun x => h x.1)]; simp [h]
theorem byteG_err {s : ByteArray} {p e : Int} (h : e ≠ 0) : byteG s p e = (0, p, e) := by unfold byteG; rw [if_pos h]
theorem headG_bad (s : ByteArray) (p n : Int) : (headG s false p n).e ≠ 0 := by
  unfold headG
  simp only
  generalize (byteG s p 0).1 = op
  generalize (byteG s p 0).2.1 = p1
  have he : demG (byteG s p 0).2.2 (decide (n + 1 ≤ 30) && false) ≠ 0 := fun h => by have := (demG_zero.1 h).2; simp at this
  generalize demG (byteG s p 0).2.2 (decide (n + 1 ≤ 30) && false) = e2 at *
  have h1 : byteG s p1 e2 = (0, p1, e2) := byteG_err he
  have h2 : rdT s 1000 p1 e2 = (⟨#[]⟩, p1, e2) := rdT_err he
  rw [h1, h2]
  simp only [h2]
  have h3 : ∀ r, demG e2 r ≠ 0 := fun r h => he (demG_zero.1 h).1
  repeat' split
  all_goals first | exact he | exact h3 _
/-- However deep, it is what stands ahead, and the kids. -/
theorem partG_is (s : ByteArray) (f : Nat) (p n : Int) : ∃ g, (∀ f', f = f' + 1 → g = partG s f') ∧ partG s f p n = wrapG (headG s (decide (0 < f)) p n) (loopG g (headG s (decide (0 < f)) p n).kids.toNat (headG s (decide (0 < f)) p n).p (headG s (decide (0 < f)) p n).n (headG s (decide (0 < f)) p n).e) := by
  cases f with
  | zero =>
    refine ⟨fun _ _ => (.mk 0 ⟨#[]⟩ ⟨#[]⟩ [], 0, 0, 0), fun f' h => by omega, ?_⟩
    rw [show decide (0 < 0) = false from rfl, loopG_err (headG_bad s p n)]
    rfl
  | succ f => exact ⟨partG s f, fun f' h => by cases h; rfl, by rw [show decide (0 < f + 1) = true from decide_eq_true (by omega)]; rfl⟩
/-- By its kind. -/
theorem headG_is (s : ByteArray) (ok : Bool) (p n op p1 e1 e2 : Int) (h1 : byteG s p 0 = (op, p1, e1)) (h2 : demG e1 (decide (n + 1 ≤ 30) && ok) = e2) :
    (op = 0 ∧ headG s ok p n = ⟨0, ⟨#[]⟩, ⟨#[]⟩, 0, p1, n + 1, e2⟩) ∨ ((op = 1 ∨ op = 2) ∧ headG s ok p n = ⟨op, ⟨#[]⟩, ⟨#[]⟩, (byteG s p1 e2).1, (byteG s p1 e2).2.1, n + 1, demG (byteG s p1 e2).2.2 (manyK (byteG s p1 e2).1)⟩) ∨ (op = 3 ∧ headG s ok p n = ⟨3, ⟨#[]⟩, ⟨#[]⟩, 1, p1, n + 1, e2⟩) ∨
    (op = 4 ∧ headG s ok p n = ⟨4, (rdT s 1000 p1 e2).1, ⟨#[]⟩, 0, (rdT s 1000 p1 e2).2.1, n + 1, (rdT s 1000 p1 e2).2.2⟩) ∨
    (op = 5 ∧ headG s ok p n = ⟨5, (rdT s 1000 p1 e2).1, (rdT s 1000 (rdT s 1000 p1 e2).2.1 (rdT s 1000 p1 e2).2.2).1, 0, (rdT s 1000 (rdT s 1000 p1 e2).2.1 (rdT s 1000 p1 e2).2.2).2.1, n + 1, (rdT s 1000 (rdT s 1000 p1 e2).2.1 (rdT s 1000 p1 e2).2.2).2.2⟩) ∨
    ((op = 6 ∨ op = 7) ∧ headG s ok p n = ⟨op, ⟨#[]⟩, (rdT s 1000 p1 e2).1, 0, (rdT s 1000 p1 e2).2.1, n + 1, (rdT s 1000 p1 e2).2.2⟩) ∨
    ((op < 0 ∨ 8 ≤ op) ∧ headG s ok p n = ⟨op, ⟨#[]⟩, ⟨#[]⟩, 0, p1, n + 1, demG e2 false⟩) := by
  unfold headG
  rw [h1]
  simp only [h2]
  by_cases g0 : op = 0
  · exact .inl ⟨g0, by rw [if_pos g0, g0]⟩
  by_cases g1 : op = 1 ∨ op = 2
  · exact .inr (.inl ⟨g1, by rw [if_neg g0, if_pos g1]⟩)
  by_cases g3 : op = 3
  · exact .inr (.inr (.inl ⟨g3, by rw [if_neg g0, if_neg g1, if_pos g3, g3]⟩))
  by_cases g4 : op = 4
  · exact .inr (.inr (.inr (.inl ⟨g4, by rw [if_neg g0, if_neg g1, if_neg g3, if_pos g4, g4]⟩)))
  by_cases g5 : op = 5
  · exact .inr (.inr (.inr (.inr (.inl ⟨g5, by rw [if_neg g0, if_neg g1, if_neg g3, if_neg g4, if_pos g5, g5]⟩))))
  by_cases g6 : op = 6 ∨ op = 7
  · exact .inr (.inr (.inr (.inr (.inr (.inl ⟨g6, by rw [if_neg g0, if_neg g1, if_neg g3, if_neg g4, if_neg g5, if_pos g6]⟩)))))
  · exact .inr (.inr (.inr (.inr (.inr (.inr ⟨by omega, by rw [if_neg g0, if_neg g1, if_neg g3, if_neg g4, if_neg g5, if_neg g6]⟩)))))
/- What was read ahead of the kids. -/
def byteB (x : Int) : UInt8 := UInt8.ofNat x.toNat
/-- What stands ahead of the kids, as bytes. -/
def ownL (t : Tr) : List UInt8 :=
  byteB t.op :: (if t.op = 1 ∨ t.op = 2 then [byteB t.kids.length] else if t.op = 4 then txt t.name else if t.op = 5 then txt t.name ++ txt t.value else if t.op = 6 ∨ t.op = 7 then txt t.value else [])
def textD : Nat → Tr → List UInt8
  | 0, t => ownL t
  | d + 1, t => ownL t ++ t.kids.flatMap (textD d)
theorem byteG_range (s : ByteArray) (p e : Int) : 0 ≤ (byteG s p e).1 ∧ (byteG s p e).1 ≤ 255 := by
  unfold byteG
  split
  · simp
  · split
    · simp
    · simp only
      have := (s.data.getD p.toNat 0).toNat_lt
      omega
theorem byteG_at {s : ByteArray} {p e : Int} (h0 : 0 ≤ p) (h1 : p ≤ s.size) : 0 ≤ (byteG s p e).2.1 ∧ (byteG s p e).2.1 ≤ s.size := by
  unfold byteG
  split
  · exact ⟨h0, h1⟩
  · split
    · exact ⟨h0, h1⟩
    · simp only; omega
theorem byteG_ok {s : ByteArray} {p e : Int} (h0 : 0 ≤ p) (h1 : p ≤ s.size) (h : (byteG s p e).2.2 = 0) : e = 0 ∧ Span s p (byteG s p e).2.1 [byteB (byteG s p e).1] ∧ (byteG s p e).2.1 = p + 1 := by
  unfold byteG at h ⊢
  by_cases he : e = 0
  · rw [if_neg (by simpa using he)] at h ⊢
    by_cases hp : p = s.size
    · rw [if_pos hp] at h; cases h
    · rw [if_neg hp] at h ⊢
      refine ⟨he, ⟨h0, by simp only; omega, by simp only; omega, ?_⟩, rfl⟩
      obtain ⟨k, rfl⟩ : ∃ k : Nat, p = k := ⟨p.toNat, by omega⟩
      have hk : k < s.data.toList.length := by show k < s.size; omega
      simp only [Int.toNat_natCast]
      rw [show ((k : Int) + 1).toNat = k + 1 by omega, List.drop_eq_getElem_cons hk]
      have : byteB (((s.data.getD k 0).toNat : Nat) : Int) = s.data.toList[k] := by
        unfold byteB
        rw [Int.toNat_natCast]
        have hk3 : k < s.size := hk
        simp [Array.getD, hk3]
      rw [this]; rfl
  · rw [if_pos (by simpa using he)] at h
    exact absurd h he
theorem rdT_sz (s : ByteArray) (q e : Int) : (rdT s 1000 q e).1.size ≤ 1000 := by
  by_cases c : (rdT s 1000 q e).2.2 = 0
  · have := (rdT_ok c).2.2; omega
  · unfold rdT at c ⊢
    split
    · rename_i h
      rw [if_pos h] at c
      unfold takeG at c ⊢
      have h0 : (⟨#[]⟩ : ByteArray).size ≤ 1000 := Nat.zero_le _
      split
      · exact h0
      · split
        · exact h0
        · split
          · exact h0
          · rename_i h1 h2 h3
            rw [if_neg h1, if_neg h2, if_neg h3] at c
            exact absurd rfl c
    · exact Nat.zero_le _
theorem headG_in (s : ByteArray) (ok : Bool) (p n : Int) : 0 ≤ (headG s ok p n).op ∧ (headG s ok p n).op ≤ 255 ∧ 0 ≤ (headG s ok p n).kids ∧ (headG s ok p n).kids ≤ 255 ∧ (headG s ok p n).name.size ≤ 1000 ∧ (headG s ok p n).value.size ≤ 1000 ∧ (headG s ok p n).n = n + 1 := by
  have h1 := byteG_range s p 0
  have h2 := fun q e => byteG_range s q e
  have h3 := fun q e => rdT_sz s q e
  have h0 : (⟨#[]⟩ : ByteArray).size = 0 := rfl
  unfold headG
  simp only
  repeat' split
  all_goals (refine ⟨h1.1, h1.2, ?_, ?_, ?_, ?_, rfl⟩ <;> first | exact (h2 _ _).1 | exact (h2 _ _).2 | exact h3 _ _ | exact Nat.zero_le _ | (simp only; omega) | (simp only; decide))
theorem headG_ok {s : ByteArray} {p n : Int} {ok : Bool} (h0 : 0 ≤ p) (h1 : p ≤ s.size) (h : (headG s ok p n).e = 0) (ks : List Tr) (hk : (ks.length : Int) = (headG s ok p n).kids) :
    n + 1 ≤ 30 ∧ Span s p (headG s ok p n).p (ownL (.mk (headG s ok p n).op (headG s ok p n).name (headG s ok p n).value ks)) := by
  unfold headG at h hk ⊢
  simp only at h hk ⊢
  have hb := fun (hz : (byteG s p 0).2.2 = 0) => byteG_ok h0 h1 hz
  generalize (byteG s p 0).1 = op at *
  generalize (byteG s p 0).2.1 = p1 at *
  have hd : demG (byteG s p 0).2.2 (decide (n + 1 ≤ 30) && ok) = 0 → n + 1 ≤ 30 ∧ Span s p p1 [byteB op] := fun hz => by
    obtain ⟨a, b⟩ := demG_zero.1 hz
    rw [Bool.and_eq_true, decide_eq_true_eq] at b
    exact ⟨b.1, (hb a).2.1⟩
  clear hb
  generalize demG (byteG s p 0).2.2 (decide (n + 1 ≤ 30) && ok) = e2 at *
  by_cases g0 : op = 0
  · rw [if_pos g0] at h hk ⊢
    subst g0
    exact hd h
  rw [if_neg g0] at h hk ⊢
  by_cases g1 : op = 1 ∨ op = 2
  · rw [if_pos g1] at h hk ⊢
    simp only at h hk ⊢
    obtain ⟨a, b⟩ := demG_zero.1 h
    have he2 : e2 = 0 := by
      by_cases c : e2 = 0
      · exact c
      · rw [byteG_err c] at a; exact a
    obtain ⟨d1, d2⟩ := hd he2
    obtain ⟨_, e3, _⟩ := byteG_ok (Int.le_trans d2.1 d2.2.1) d2.2.2.1 a
    refine ⟨d1, ?_⟩
    have hw : ownL (.mk op ⟨#[]⟩ ⟨#[]⟩ ks) = [byteB op] ++ [byteB (ks.length : Int)] := by
      rcases g1 with rfl | rfl <;> rfl
    rw [hw, hk]
    exact d2.join e3
  rw [if_neg g1] at h hk ⊢
  by_cases g3 : op = 3
  · rw [if_pos g3] at h hk ⊢
    subst g3
    exact hd h
  rw [if_neg g3] at h hk ⊢
  by_cases g4 : op = 4
  · rw [if_pos g4] at h hk ⊢
    simp only at h ⊢
    obtain ⟨a, b, _⟩ := rdT_ok h
    obtain ⟨d1, d2⟩ := hd a
    refine ⟨d1, ?_⟩
    subst g4
    exact d2.join b
  rw [if_neg g4] at h hk ⊢
  by_cases g5 : op = 5
  · rw [if_pos g5] at h hk ⊢
    simp only at h ⊢
    obtain ⟨a, b, _⟩ := rdT_ok h
    obtain ⟨a2, b2, _⟩ := rdT_ok a
    obtain ⟨d1, d2⟩ := hd a2
    refine ⟨d1, ?_⟩
    subst g5
    exact d2.join (b2.join b)
  rw [if_neg g5] at h hk ⊢
  by_cases g6 : op = 6 ∨ op = 7
  · rw [if_pos g6] at h hk ⊢
    simp only at h ⊢
    obtain ⟨a, b, _⟩ := rdT_ok h
    obtain ⟨d1, d2⟩ := hd a
    refine ⟨d1, ?_⟩
    rcases g6 with rfl | rfl
    · exact d2.join b
    · exact d2.join b
  rw [if_neg g6] at h hk ⊢
  simp only at h
  exact absurd (demG_zero.1 h).2 (by simp)
theorem loopG_ok (s : ByteArray) (g : Int → Int → Tr × Int × Int × Int) (T : Tr → List UInt8) (Z : Tr → Nat) (D : Tr → Prop)
    (hg : ∀ (p n : Int), 0 ≤ p → p ≤ s.size → 0 ≤ n → (g p n).2.2.2 = 0 → Span s p (g p n).2.1 (T (g p n).1) ∧ (g p n).2.2.1 = n + Z (g p n).1 ∧ (g p n).2.2.1 ≤ 30 ∧ D (g p n).1) :
    ∀ (k : Nat) (p n e : Int), 0 ≤ p → p ≤ s.size → 0 ≤ n → n ≤ 30 → (loopG g k p n e).2.2.2 = 0 →
      e = 0 ∧ Span s p (loopG g k p n e).2.1 ((loopG g k p n e).1.flatMap T) ∧ (loopG g k p n e).2.2.1 = n + (((loopG g k p n e).1.map Z).sum : Nat) ∧ (loopG g k p n e).2.2.1 ≤ 30 ∧ (loopG g k p n e).1.length = k ∧ ∀ x ∈ (loopG g k p n e).1, D x
  | 0, p, n, e, h0, h1, n0, n1, h => ⟨h, Span.nil h0 h1, by simp [loopG], n1, rfl, fun x hx => by cases hx⟩
  | k + 1, p, n, e, h0, h1, n0, n1, h => by
    by_cases he : e = 0
    · subst he
      rw [loopG, if_pos rfl] at h ⊢
      simp only at h ⊢
      have hge : (g p n).2.2.2 = 0 := by
        by_cases c : (g p n).2.2.2 = 0
        · exact c
        · rw [loopG_err c] at h; exact h
      obtain ⟨s1, z1, t1, d1⟩ := hg p n h0 h1 n0 hge
      generalize hx : g p n = x at *
      obtain ⟨_, s2, z2, t2, l2, d2⟩ := loopG_ok s g T Z D hg k x.2.1 x.2.2.1 x.2.2.2 (Int.le_trans s1.1 s1.2.1) s1.2.2.1 (by omega) t1 h
      refine ⟨trivial, by rw [List.flatMap_cons]; exact s1.join s2, ?_, t2, by simpa using l2, fun y hy => ?_⟩
      · rw [z2, List.map_cons, List.sum_cons, z1]; omega
      · rcases List.mem_cons.1 hy with rfl | hy
        · exact d1
        · exact d2 y hy
    · rw [loopG_err he] at h
      exact absurd h he
theorem partG_ok (s : ByteArray) : ∀ (f : Nat) (p n : Int), 0 ≤ p → p ≤ s.size → 0 ≤ n → (partG s f p n).2.2.2 = 0 →
    Span s p (partG s f p n).2.1 (textD f (partG s f p n).1) ∧ (partG s f p n).2.2.1 = n + szD f (partG s f p n).1 ∧ (partG s f p n).2.2.1 ≤ 30 ∧ depD f (partG s f p n).1
  | 0, p, n, h0, h1, n0, h => absurd h (headG_bad s p n)
  | f + 1, p, n, h0, h1, n0, h => by
    have hN := (headG_in s true p n).2.2.2.2.2.2
    have hK := (headG_in s true p n).2.2.1
    have hH := fun ks a b => headG_ok (s := s) (p := p) (n := n) (ok := true) h0 h1 a ks b
    unfold partG at h ⊢
    unfold wrapG at h ⊢
    simp only at h ⊢
    generalize headG s true p n = H at *
    have he : H.e = 0 := by
      by_cases c : H.e = 0
      · exact c
      · rw [loopG_err c] at h; exact h
    have hL := loopG_ok s (partG s f) (textD f) (szD f) (depD f) (partG_ok s f) H.kids.toNat H.p H.n H.e
    have hl : ∀ ks : List Tr, (ks.length : Int) = H.kids → n + 1 ≤ 30 ∧ 0 ≤ H.p ∧ H.p ≤ s.size := fun ks hk => by
      obtain ⟨a, b⟩ := hH ks he hk
      exact ⟨a, Int.le_trans b.1 b.2.1, b.2.2.1⟩
    obtain ⟨a, b, c⟩ := hl (List.replicate H.kids.toNat (.mk 0 ⟨#[]⟩ ⟨#[]⟩ [])) (by simp; omega)
    obtain ⟨_, s2, z2, t2, l2, d2⟩ := hL b c (by omega) (by omega) h
    generalize loopG (partG s f) H.kids.toNat H.p H.n H.e = L at *
    obtain ⟨_, s1⟩ := hH L.1 he (by omega)
    refine ⟨s1.join s2, ?_, t2, d2⟩
    rw [z2, hN]
    show _ = n + ((1 + (L.1.map (szD f)).sum : Nat) : Int)
    omega
/- There and back. -/
theorem byte_rest {s : ByteArray} {p : Int} {b : UInt8} {l : List UInt8} (h : Rest s p (b :: l)) : byteG s p 0 = ((b.toNat : Int), p + 1, 0) ∧ Rest s (p + 1) l := by
  have hn := Rest.next (a := [b]) (l := l) h
  have hl := h.len
  obtain ⟨h0, h1, h2⟩ := h
  simp only [List.length_cons] at hl
  refine ⟨?_, hn⟩
  unfold byteG
  rw [if_neg (by simp), if_neg (by omega)]
  have : s.data.getD p.toNat 0 = b := by
    have hk : p.toNat < s.data.toList.length := by show p.toNat < s.size; omega
    rw [List.drop_eq_getElem_cons hk] at h2
    have := (List.cons.inj h2).1
    have hk3 : p.toNat < s.size := hk
    simpa [Array.getD, hk3] using this
  rw [this]
theorem byte_cut {s : ByteArray} {p : Int} {b : UInt8} {l : List UInt8} (h : Cut s p (b :: l)) : (byteG s p 0 = ((b.toNat : Int), p + 1, 0) ∧ Cut s (p + 1) l) ∨ (byteG s p 0).2.2 = 2 := by
  by_cases hp : p = s.size
  · right
    unfold byteG
    rw [if_neg (by simp), if_pos hp]
  · left
    have hl : p + (([b] : List UInt8).length : Int) ≤ s.size := by have := h.2.1; simp; omega
    have hn := Cut.next (a := [b]) (l := l) h hl
    refine ⟨?_, hn⟩
    obtain ⟨h0, h1, t, ht, h2⟩ := h
    unfold byteG
    rw [if_neg (by simp), if_neg hp]
    have : s.data.getD p.toNat 0 = b := by
      have hk : p.toNat < s.data.toList.length := by show p.toNat < s.size; omega
      rw [List.drop_eq_getElem_cons hk] at h2
      have := (List.cons.inj h2).1
      have hk3 : p.toNat < s.size := hk
      simpa [Array.getD, hk3] using this
    rw [this]
theorem byteB_nat {x : Int} (h0 : 0 ≤ x) (h1 : x ≤ 255) : ((byteB x).toNat : Int) = x := by
  unfold byteB
  rw [UInt8.toNat_ofNat_of_lt' (by show x.toNat < 256; omega)]
  omega
theorem demG_fine : demG 0 true = 0 := rfl
theorem emptyB {s : ByteArray} (h : s.size = 0) : s = ⟨#[]⟩ := by
  apply ByteArray.ext
  exact Array.eq_empty_of_size_eq_zero h
/-- What partB says, kind by kind. -/
theorem partB_forms {t : Tr} (h : partB t = true) :
    (t.op = 0 ∧ t.kids.length = 0 ∧ t.name = ⟨#[]⟩ ∧ t.value = ⟨#[]⟩) ∨ ((t.op = 1 ∨ t.op = 2) ∧ 2 ≤ t.kids.length ∧ t.name = ⟨#[]⟩ ∧ t.value = ⟨#[]⟩) ∨ (t.op = 3 ∧ t.kids.length = 1 ∧ t.name = ⟨#[]⟩ ∧ t.value = ⟨#[]⟩) ∨
    (t.op = 4 ∧ t.kids.length = 0 ∧ t.name.size ≤ 1000 ∧ t.value = ⟨#[]⟩) ∨ (t.op = 5 ∧ t.kids.length = 0 ∧ t.name.size ≤ 1000 ∧ t.value.size ≤ 1000) ∨ ((t.op = 6 ∨ t.op = 7) ∧ t.kids.length = 0 ∧ t.name = ⟨#[]⟩ ∧ t.value.size ≤ 1000) := by
  unfold partB smB at h
  repeat' split at h
  all_goals simp only [Bool.and_eq_true, decide_eq_true_eq, Bool.false_eq_true] at h
  · rename_i g; exact .inl ⟨g, h.1.1, emptyB h.1.2, emptyB h.2⟩
  · rename_i g; exact .inr (.inl ⟨g, h.1.1, emptyB h.1.2, emptyB h.2⟩)
  · rename_i g; exact .inr (.inr (.inl ⟨g, h.1.1, emptyB h.1.2, emptyB h.2⟩))
  · rename_i g; exact .inr (.inr (.inr (.inl ⟨g, h.1.1, h.1.2.2, emptyB h.2⟩)))
  · rename_i g; exact .inr (.inr (.inr (.inr (.inl ⟨g, h.1.1, h.1.2.2, h.2⟩))))
  · rename_i g; exact .inr (.inr (.inr (.inr (.inr ⟨g, h.1.1, emptyB h.1.2, h.2.2⟩))))
/-- What a head reads of a text that one wrote: r is how the readers answer (Rest, or Cut). -/
theorem headG_enc {s : ByteArray} {t : Tr} {p n : Int} {l : List UInt8} (hp : partB t = true) (hk : t.kids.length ≤ 30) (h0 : 0 ≤ n) (h1 : n + 1 ≤ 30) (h : Rest s p (ownL t ++ l)) :
    headG s true p n = ⟨t.op, t.name, t.value, t.kids.length, p + (ownL t).length, n + 1, 0⟩ ∧ Rest s (p + (ownL t).length) l := by
  have hd : (decide (n + 1 ≤ 30) && true) = true := by rw [decide_eq_true h1]; rfl
  have hn := h.next
  obtain ⟨hop0, hop1⟩ : 0 ≤ t.op ∧ t.op ≤ 255 := by rcases partB_forms hp with ⟨a, _⟩ | ⟨a, _⟩ | ⟨a, _⟩ | ⟨a, _⟩ | ⟨a, _⟩ | ⟨a, _⟩ <;> omega
  refine ⟨?_, hn⟩
  unfold ownL at h ⊢
  rw [List.cons_append] at h
  obtain ⟨e1, r1⟩ := byte_rest h
  rw [byteB_nat hop0 hop1] at e1
  unfold headG
  rw [e1]
  simp only [hd, demG_fine]
  rcases partB_forms hp with ⟨a, b, c, d⟩ | ⟨a, b, c, d⟩ | ⟨a, b, c, d⟩ | ⟨a, b, c, d⟩ | ⟨a, b, c, d⟩ | ⟨a, b, c, d⟩
  · rw [a, b, c, d]; rfl
  · rw [if_pos a] at r1
    rw [if_neg (show ¬ t.op = 0 by omega), if_pos a, if_pos a]
    obtain ⟨e2, r2⟩ := byte_rest r1
    rw [byteB_nat (by omega) (by omega)] at e2
    rw [e2, c, d]
    simp only
    rw [show manyK (t.kids.length : Int) = true by unfold manyK; rw [decide_eq_true (by omega), decide_eq_true (by omega)]; rfl, demG_fine]
    congr 1
    simp; omega
  · rw [a, b, c, d]; rfl
  · rw [if_neg (show ¬ (t.op = 1 ∨ t.op = 2) by omega), if_pos a] at r1
    obtain ⟨e2, r2⟩ := rdT_txt (m := 1000) r1 (by omega) (by omega)
    rw [a, b, d]
    simp only [if_neg (show ¬ (4 : Int) = 0 by decide), if_neg (show ¬ ((4 : Int) = 1 ∨ (4 : Int) = 2) by decide), if_neg (show ¬ (4 : Int) = 3 by decide), if_true]
    rw [e2]
    congr 1
    simp; omega
  · rw [if_neg (show ¬ (t.op = 1 ∨ t.op = 2) by omega), if_neg (show ¬ t.op = 4 by omega), if_pos a, List.append_assoc] at r1
    obtain ⟨e2, r2⟩ := rdT_txt (m := 1000) r1 (by omega) (by omega)
    obtain ⟨e3, r3⟩ := rdT_txt (m := 1000) r2 (by omega) (by omega)
    rw [a, b]
    simp only [if_neg (show ¬ (5 : Int) = 0 by decide), if_neg (show ¬ ((5 : Int) = 1 ∨ (5 : Int) = 2) by decide), if_neg (show ¬ (5 : Int) = 3 by decide), if_neg (show ¬ (5 : Int) = 4 by decide), if_true]
    rw [e2]
    simp only
    rw [e3]
    congr 1
    simp; omega
  · have q : ¬ (t.op = 1 ∨ t.op = 2) ∧ ¬ t.op = 4 ∧ ¬ t.op = 5 ∧ ¬ t.op = 0 ∧ ¬ t.op = 3 := by omega
    rw [if_neg q.1, if_neg q.2.1, if_neg q.2.2.1, if_pos a] at r1
    obtain ⟨e2, r2⟩ := rdT_txt (m := 1000) r1 (by omega) (by omega)
    rw [if_neg q.2.2.2.1, if_neg q.1, if_neg q.2.2.2.2, if_neg q.2.1, if_neg q.2.2.1, if_pos a, if_neg q.1, if_neg q.2.1, if_neg q.2.2.1, if_pos a, b, c, e2]
    congr 1
    simp; omega
theorem headG_cut {s : ByteArray} {t : Tr} {p n : Int} {l : List UInt8} (hp : partB t = true) (hk : t.kids.length ≤ 30) (h0 : 0 ≤ n) (h1 : n + 1 ≤ 30) (h : Cut s p (ownL t ++ l)) :
    (headG s true p n = ⟨t.op, t.name, t.value, t.kids.length, p + (ownL t).length, n + 1, 0⟩ ∧ Cut s (p + (ownL t).length) l) ∨ (headG s true p n).e = 2 := by
  have hd : (decide (n + 1 ≤ 30) && true) = true := by rw [decide_eq_true h1]; rfl
  obtain ⟨hop0, hop1⟩ : 0 ≤ t.op ∧ t.op ≤ 255 := by rcases partB_forms hp with ⟨a, _⟩ | ⟨a, _⟩ | ⟨a, _⟩ | ⟨a, _⟩ | ⟨a, _⟩ | ⟨a, _⟩ <;> omega
  have hd2 : demG 2 true = 2 := rfl
  unfold ownL at h ⊢
  rw [List.cons_append] at h
  rcases byte_cut h with ⟨e1, r1⟩ | e1
  · rw [byteB_nat hop0 hop1] at e1
    unfold headG
    rw [e1]
    simp only [hd, demG_fine]
    rcases partB_forms hp with ⟨a, b, c, d⟩ | ⟨a, b, c, d⟩ | ⟨a, b, c, d⟩ | ⟨a, b, c, d⟩ | ⟨a, b, c, d⟩ | ⟨a, b, c, d⟩
    · rw [a] at r1
      rw [a, b, c, d]; exact .inl ⟨rfl, r1⟩
    · rw [if_pos a] at r1
      rw [if_neg (show ¬ t.op = 0 by omega), if_pos a, if_pos a]
      rcases byte_cut r1 with ⟨e2, r2⟩ | e2
      · rw [byteB_nat (by omega) (by omega)] at e2
        left
        rw [e2, c, d]
        simp only
        rw [show manyK (t.kids.length : Int) = true by unfold manyK; rw [decide_eq_true (by omega), decide_eq_true (by omega)]; rfl, demG_fine]
        have hl : p + ((byteB t.op :: [byteB (t.kids.length : Int)]).length : Int) = p + 1 + 1 := by simp; omega
        rw [hl]
        exact ⟨rfl, r2⟩
      · right
        simp only
        rw [e2]
        unfold demG; rw [if_neg (by simp)]
    · rw [a] at r1
      rw [a, b, c, d]; exact .inl ⟨rfl, r1⟩
    · rw [if_neg (show ¬ (t.op = 1 ∨ t.op = 2) by omega), if_pos a] at r1
      rw [a, b, d]
      simp only [if_neg (show ¬ (4 : Int) = 0 by decide), if_neg (show ¬ ((4 : Int) = 1 ∨ (4 : Int) = 2) by decide), if_neg (show ¬ (4 : Int) = 3 by decide), if_true]
      rcases rdT_cut (m := 1000) r1 (by omega) (by omega) with ⟨e2, r2⟩ | e2
      · left
        rw [e2]
        have hl : p + ((byteB 4 :: txt t.name).length : Int) = p + 1 + ((txt t.name).length : Int) := by simp; omega
        rw [hl]
        exact ⟨rfl, r2⟩
      · exact .inr e2
    · rw [if_neg (show ¬ (t.op = 1 ∨ t.op = 2) by omega), if_neg (show ¬ t.op = 4 by omega), if_pos a, List.append_assoc] at r1
      rw [a, b]
      simp only [if_neg (show ¬ (5 : Int) = 0 by decide), if_neg (show ¬ ((5 : Int) = 1 ∨ (5 : Int) = 2) by decide), if_neg (show ¬ (5 : Int) = 3 by decide), if_neg (show ¬ (5 : Int) = 4 by decide), if_true]
      rcases rdT_cut (m := 1000) r1 (by omega) (by omega) with ⟨e2, r2⟩ | e2
      · rw [e2]
        simp only
        rcases rdT_cut (m := 1000) r2 (by omega) (by omega) with ⟨e3, r3⟩ | e3
        · left
          rw [e3]
          have hl : p + ((byteB 5 :: (txt t.name ++ txt t.value)).length : Int) = p + 1 + ((txt t.name).length : Int) + ((txt t.value).length : Int) := by simp; omega
          rw [hl]
          exact ⟨rfl, r3⟩
        · exact .inr e3
      · right
        show (rdT s 1000 (rdT s 1000 (p + 1) 0).2.1 (rdT s 1000 (p + 1) 0).2.2).2.2 = 2
        rw [rdT_err (s := s) (m := 1000) (q := (rdT s 1000 (p + 1) 0).2.1) (e := (rdT s 1000 (p + 1) 0).2.2) (by rw [e2]; decide)]
        exact e2
    · have q : ¬ (t.op = 1 ∨ t.op = 2) ∧ ¬ t.op = 4 ∧ ¬ t.op = 5 ∧ ¬ t.op = 0 ∧ ¬ t.op = 3 := by omega
      rw [if_neg q.1, if_neg q.2.1, if_neg q.2.2.1, if_pos a] at r1
      rw [if_neg q.2.2.2.1, if_neg q.1, if_neg q.2.2.2.2, if_neg q.2.1, if_neg q.2.2.1, if_pos a, if_neg q.1, if_neg q.2.1, if_neg q.2.2.1, if_pos a, b, c]
      rcases rdT_cut (m := 1000) r1 (by omega) (by omega) with ⟨e2, r2⟩ | e2
      · left
        rw [e2]
        have hl : p + ((byteB t.op :: txt t.value).length : Int) = p + 1 + ((txt t.value).length : Int) := by simp; omega
        rw [hl]
        exact ⟨rfl, r2⟩
      · exact .inr e2
  · right
    have h2 : demG (byteG s p 0).2.2 true = 2 := by rw [e1]; rfl
    have hz : (byteG s p 0).1 = 0 := by
      by_cases c : (byteG s p 0).1 = 0
      · exact c
      · unfold byteG at e1 c
        rw [if_neg (by simp)] at e1 c
        split at e1
        · rename_i g; rw [if_pos g] at c; exact absurd rfl c
        · cases e1
    unfold headG
    simp only
    rw [if_pos hz, hd]
    exact h2
theorem loopG_enc (s : ByteArray) (f : Nat) (l : List UInt8) (hf : ∀ (t : Tr) (p n : Int) (l : List UInt8), partsB f t = true → 0 ≤ n → n + szD f t ≤ 30 → Rest s p (textD f t ++ l) → partG s f p n = (t, p + (textD f t).length, n + szD f t, 0) ∧ Rest s (p + (textD f t).length) l) :
    ∀ (ks : List Tr) (p n : Int), ks.all (partsB f) = true → 0 ≤ n → n + ((ks.map (szD f)).sum : Nat) ≤ 30 → Rest s p (ks.flatMap (textD f) ++ l) →
      loopG (partG s f) ks.length p n 0 = (ks, p + (ks.flatMap (textD f)).length, n + ((ks.map (szD f)).sum : Nat), 0) ∧ Rest s (p + (ks.flatMap (textD f)).length) l
  | [], p, n, _, _, _, h => ⟨by simp [loopG], by simpa using h⟩
  | k :: ks, p, n, ha, h0, hn, h => by
    rw [List.all_cons, Bool.and_eq_true] at ha
    rw [List.map_cons, List.sum_cons] at hn ⊢
    rw [List.flatMap_cons] at h ⊢
    rw [List.append_assoc] at h
    obtain ⟨e1, r1⟩ := hf k p n _ ha.1 h0 (by omega) h
    obtain ⟨e2, r2⟩ := loopG_enc s f l hf ks _ (n + szD f k) ha.2 (by omega) (by omega) r1
    have hl : p + ((textD f k ++ ks.flatMap (textD f)).length : Int) = p + ((textD f k).length : Int) + ((ks.flatMap (textD f)).length : Int) := by rw [List.length_append]; omega
    rw [hl]
    refine ⟨?_, r2⟩
    rw [List.length_cons, loopG, if_pos rfl, e1]
    simp only
    rw [e2]
    simp only [Prod.mk.injEq, true_and, and_true]
    omega
theorem kids_few {f : Nat} {t : Tr} {n : Int} (h0 : 0 ≤ n) (h : n + szD (f + 1) t ≤ 30) : t.kids.length ≤ 30 ∧ n + 1 ≤ 30 ∧ n + 1 + ((t.kids.map (szD f)).sum : Nat) ≤ 30 := by
  have h2 : n + ((1 + (t.kids.map (szD f)).sum : Nat) : Int) ≤ 30 := h
  have h3 : ∀ L : List Tr, L.length ≤ (L.map (szD f)).sum := fun L => by
    induction L with
    | nil => simp
    | cons x L ih => have := szD_pos f x; simp only [List.length_cons, List.map_cons, List.sum_cons]; omega
  have := h3 t.kids
  omega
theorem partG_enc (s : ByteArray) : ∀ (f : Nat) (t : Tr) (p n : Int) (l : List UInt8), partsB f t = true → 0 ≤ n → n + szD f t ≤ 30 → Rest s p (textD f t ++ l) → partG s f p n = (t, p + (textD f t).length, n + szD f t, 0) ∧ Rest s (p + (textD f t).length) l
  | 0, t, p, n, l, hp, _, _, _ => by cases hp
  | f + 1, t, p, n, l, hp, h0, hn, h => by
    have hp2 : (partB t && t.kids.all (partsB f)) = true := hp
    rw [Bool.and_eq_true] at hp2
    obtain ⟨hk, hn1, hns⟩ := kids_few h0 hn
    have hx : textD (f + 1) t = ownL t ++ t.kids.flatMap (textD f) := rfl
    rw [hx] at h ⊢
    rw [List.append_assoc] at h
    obtain ⟨e1, r1⟩ := headG_enc hp2.1 hk h0 hn1 h
    obtain ⟨e2, r2⟩ := loopG_enc s f l (partG_enc s f) t.kids _ (n + 1) hp2.2 (by omega) hns r1
    have hl : p + ((ownL t ++ t.kids.flatMap (textD f)).length : Int) = p + ((ownL t).length : Int) + ((t.kids.flatMap (textD f)).length : Int) := by rw [List.length_append]; omega
    rw [hl]
    refine ⟨?_, r2⟩
    unfold partG
    rw [e1]
    simp only [Int.toNat_natCast]
    rw [e2]
    unfold wrapG
    have hsz : (szD (f + 1) t : Int) = 1 + ((t.kids.map (szD f)).sum : Nat) := by
      show ((1 + (t.kids.map (szD f)).sum : Nat) : Int) = _
      omega
    rw [hsz]
    cases t
    simp only [Prod.mk.injEq, Tr.op, Tr.name, Tr.value, Tr.kids, true_and, and_true]
    omega
theorem loopG_cut (s : ByteArray) (f : Nat) (l : List UInt8) (hf : ∀ (t : Tr) (p n : Int) (l : List UInt8), partsB f t = true → 0 ≤ n → n + szD f t ≤ 30 → Cut s p (textD f t ++ l) → (partG s f p n = (t, p + (textD f t).length, n + szD f t, 0) ∧ Cut s (p + (textD f t).length) l) ∨ (partG s f p n).2.2.2 = 2) :
    ∀ (ks : List Tr) (p n : Int), ks.all (partsB f) = true → 0 ≤ n → n + ((ks.map (szD f)).sum : Nat) ≤ 30 → Cut s p (ks.flatMap (textD f) ++ l) →
      (loopG (partG s f) ks.length p n 0 = (ks, p + (ks.flatMap (textD f)).length, n + ((ks.map (szD f)).sum : Nat), 0) ∧ Cut s (p + (ks.flatMap (textD f)).length) l) ∨ (loopG (partG s f) ks.length p n 0).2.2.2 = 2
  | [], p, n, _, _, _, h => .inl ⟨by simp [loopG], by simpa using h⟩
  | k :: ks, p, n, ha, h0, hn, h => by
    rw [List.all_cons, Bool.and_eq_true] at ha
    rw [List.map_cons, List.sum_cons] at hn ⊢
    rw [List.flatMap_cons] at h ⊢
    rw [List.append_assoc] at h
    have hl : p + ((textD f k ++ ks.flatMap (textD f)).length : Int) = p + ((textD f k).length : Int) + ((ks.flatMap (textD f)).length : Int) := by rw [List.length_append]; omega
    rw [hl, List.length_cons, loopG, if_pos rfl]
    rcases hf k p n _ ha.1 h0 (by omega) h with ⟨e1, r1⟩ | e1
    · rw [e1]
      simp only
      rcases loopG_cut s f l hf ks _ (n + szD f k) ha.2 (by omega) (by omega) r1 with ⟨e2, r2⟩ | e2
      · left
        rw [e2]
        refine ⟨?_, r2⟩
        simp only [Prod.mk.injEq, true_and, and_true]
        omega
      · exact .inr e2
    · right
      simp only
      rw [loopG_err (by rw [e1]; decide)]
      exact e1
theorem partG_cut (s : ByteArray) : ∀ (f : Nat) (t : Tr) (p n : Int) (l : List UInt8), partsB f t = true → 0 ≤ n → n + szD f t ≤ 30 → Cut s p (textD f t ++ l) → (partG s f p n = (t, p + (textD f t).length, n + szD f t, 0) ∧ Cut s (p + (textD f t).length) l) ∨ (partG s f p n).2.2.2 = 2
  | 0, t, p, n, l, hp, _, _, _ => by cases hp
  | f + 1, t, p, n, l, hp, h0, hn, h => by
    have hp2 : (partB t && t.kids.all (partsB f)) = true := hp
    rw [Bool.and_eq_true] at hp2
    obtain ⟨hk, hn1, hns⟩ := kids_few h0 hn
    have hx : textD (f + 1) t = ownL t ++ t.kids.flatMap (textD f) := rfl
    rw [hx] at h ⊢
    rw [List.append_assoc] at h
    have hl : p + ((ownL t ++ t.kids.flatMap (textD f)).length : Int) = p + ((ownL t).length : Int) + ((t.kids.flatMap (textD f)).length : Int) := by rw [List.length_append]; omega
    rw [hl]
    unfold partG
    rcases headG_cut hp2.1 hk h0 hn1 h with ⟨e1, r1⟩ | e1
    · rw [e1]
      simp only [Int.toNat_natCast]
      rcases loopG_cut s f l (partG_cut s f) t.kids _ (n + 1) hp2.2 (by omega) hns r1 with ⟨e2, r2⟩ | e2
      · left
        rw [e2]
        unfold wrapG
        have hsz : (szD (f + 1) t : Int) = 1 + ((t.kids.map (szD f)).sum : Nat) := by
          show ((1 + (t.kids.map (szD f)).sum : Nat) : Int) = _
          omega
        rw [hsz]
        refine ⟨?_, r2⟩
        cases t
        simp only [Prod.mk.injEq, Tr.op, Tr.name, Tr.value, Tr.kids, true_and, and_true]
        omega
      · exact .inr e2
    · right
      unfold wrapG
      simp only
      rw [loopG_err (by rw [e1]; decide)]
      exact e1
end Go.Proofs.Ytneholfghffpfaa
