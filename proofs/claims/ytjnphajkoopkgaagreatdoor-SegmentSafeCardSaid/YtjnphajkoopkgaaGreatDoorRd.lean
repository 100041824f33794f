/- Plain laws of reading numbers and texts one behind the other, up to the first error: what was written is read; what is cut off is not; what was read is what was written. No condition. -/
import Derived.Test.YtjnphajkoopkgaaGreatDoorNum
namespace Go.Proofs.YtjnphajkoopkgaaGreatDoor
set_option linter.unusedVariables false
/-- A reader's next number: behind an error nothing. -/
def rdN (s : ByteArray) (q e : Int) : Int × Int × Int := if e = 0 then getG s q else (0, q, e)
def rdT (s : ByteArray) (m q e : Int) : ByteArray × Int × Int := if e = 0 then takeG s q m else (⟨#[]⟩, q, e)
/-- A text's bytes behind its length. -/
def txt (t : ByteArray) : List UInt8 := putL t.size ++ t.data.toList
theorem txt_textG (t : ByteArray) : (⟨(txt t).toArray⟩ : ByteArray) = textG t := by
  apply ByteArray.ext; simp [txt, textG]
theorem txt_len (t : ByteArray) : (txt t).length = (putL t.size).length + t.size := by simp [txt]
/-- What stands from q on. -/
def Rest (s : ByteArray) (q : Int) (l : List UInt8) : Prop := 0 ≤ q ∧ q ≤ s.size ∧ s.data.toList.drop q.toNat = l
def Cut (s : ByteArray) (q : Int) (l : List UInt8) : Prop := 0 ≤ q ∧ q ≤ s.size ∧ ∃ t, t ≠ [] ∧ s.data.toList.drop q.toNat ++ t = l
theorem drop_len {s : ByteArray} {q : Int} (h0 : 0 ≤ q) (h : q ≤ s.size) : (s.data.toList.drop q.toNat).length = s.size - q.toNat := by simp
theorem Rest.len {s : ByteArray} {q : Int} {l : List UInt8} (h : Rest s q l) : (l.length : Int) = s.size - q := by
  obtain ⟨h0, h1, h2⟩ := h
  rw [← h2, drop_len h0 h1]; omega
theorem Rest.next {s : ByteArray} {q : Int} {a l : List UInt8} (h : Rest s q (a ++ l)) : Rest s (q + a.length) l := by
  have hl := h.len
  obtain ⟨h0, h1, h2⟩ := h
  refine ⟨by omega, by rw [List.length_append] at hl; omega, ?_⟩
  rw [show (q + (a.length : Int)).toNat = q.toNat + a.length by omega, ← List.drop_drop, h2, List.drop_left]
theorem getG_nat {s : ByteArray} {q : Int} (h0 : 0 ≤ q) (h1 : q ≤ s.size) : getG s q = getT q.toNat (s.data.toList.drop q.toNat) := by
  unfold getG; rw [if_neg (by omega)]
theorem get_rest {s : ByteArray} {q n : Int} {l : List UInt8} (h : Rest s q (putL n ++ l)) (n0 : -9223372036854775808 ≤ n) (n1 : n ≤ 9223372036854775807) :
    getG s q = (n, q + (putL n).length, 0) := by
  obtain ⟨h0, h1, h2⟩ := h
  rw [getG_nat h0 h1, h2, getT_put n0 n1, Int.toNat_of_nonneg h0]
theorem rdN_put {s : ByteArray} {q n : Int} {l : List UInt8} (h : Rest s q (putL n ++ l)) (n0 : -9223372036854775808 ≤ n) (n1 : n ≤ 9223372036854775807) :
    rdN s q 0 = (n, q + (putL n).length, 0) ∧ Rest s (q + (putL n).length) l := ⟨by unfold rdN; rw [if_pos rfl, get_rest h n0 n1], h.next⟩
theorem take_rest {s t : ByteArray} {q m : Int} {l : List UInt8} (h : Rest s q (txt t ++ l)) (hm : (t.size : Int) ≤ m) (ht : t.size ≤ 9223372036854775807) :
    takeG s q m = (t, q + (txt t).length, 0) := by
  unfold txt at h ⊢
  rw [List.append_assoc] at h
  have hg := get_rest h (by omega) (by omega)
  have hn := h.next
  have hl := hn.len
  rw [List.length_append] at hl
  have hts : t.data.toList.length = t.size := rfl
  unfold takeG
  rw [hg]
  simp only
  rw [if_neg (by simp), if_neg (by omega), if_neg (by omega)]
  obtain ⟨g0, g1, g2⟩ := hn
  refine Prod.ext ?_ (Prod.ext ?_ rfl)
  · apply ByteArray.ext; apply Array.ext'
    simp only
    rw [extract_list, g2, show (q + (putL t.size).length + (t.size : Int)).toNat - (q + ((putL t.size).length : Int)).toNat = t.data.toList.length by omega, List.take_left]
  · simp only [List.length_append]; omega
theorem rdT_txt {s t : ByteArray} {q m : Int} {l : List UInt8} (h : Rest s q (txt t ++ l)) (hm : (t.size : Int) ≤ m) (ht : t.size ≤ 9223372036854775807) :
    rdT s m q 0 = (t, q + (txt t).length, 0) ∧ Rest s (q + (txt t).length) l := ⟨by unfold rdT; rw [if_pos rfl, take_rest h hm ht], h.next⟩
/- What is cut off. -/
theorem Cut.next {s : ByteArray} {q : Int} {a l : List UInt8} (h : Cut s q (a ++ l)) (hl : q + a.length ≤ s.size) : Cut s (q + a.length) l := by
  obtain ⟨h0, h1, t, ht, h2⟩ := h
  refine ⟨by omega, hl, t, ht, ?_⟩
  have hd := drop_len h0 h1
  rw [show (q + (a.length : Int)).toNat = q.toNat + a.length by omega, ← List.drop_drop]
  have h3 := congrArg (List.drop a.length) h2
  rw [List.drop_append_of_le_length (by omega), List.drop_left] at h3
  exact h3
theorem Cut.not_nil {s : ByteArray} {q : Int} (h : Cut s q []) : False := by
  obtain ⟨_, _, t, ht, h2⟩ := h
  exact ht (List.append_eq_nil_iff.1 h2).2
theorem going_prefix {cs : List UInt8} (hg : Going cs) (k : Nat) : Going (cs.take k) := fun b hb => hg b (List.mem_of_mem_take hb)
theorem get_cut {s : ByteArray} {q n : Int} {l : List UInt8} (h : Cut s q (putL n ++ l)) (n0 : -9223372036854775808 ≤ n) (n1 : n ≤ 9223372036854775807) :
    (getG s q = (n, q + (putL n).length, 0) ∧ Cut s (q + (putL n).length) l) ∨ (getG s q).2.2 = 2 := by
  have hc := h
  obtain ⟨h0, h1, t, ht, h2⟩ := h
  have hd := drop_len h0 h1
  by_cases hb : q + (putL n).length ≤ s.size
  · refine .inl ⟨?_, hc.next hb⟩
    have h3 := congrArg (List.take (putL n).length) h2
    rw [List.take_append_of_le_length (by omega), List.take_left] at h3
    have h4 : s.data.toList.drop q.toNat = putL n ++ (s.data.toList.drop q.toNat).drop (putL n).length := by
      conv => lhs; rw [← List.take_append_drop (putL n).length (s.data.toList.drop q.toNat), h3]
    rw [getG_nat h0 h1, h4, getT_put n0 n1, Int.toNat_of_nonneg h0]
  · right
    obtain ⟨cs, b, he, hg, _, hl, _⟩ := putL_form n0 n1
    have hpl : (putL n).length = cs.length + 1 := by rw [he]; simp
    have h3 := congrArg (List.take (s.size - q.toNat)) h2
    rw [← hd, List.take_left, List.take_append_of_le_length (by omega), he, List.take_append_of_le_length (by omega)] at h3
    rw [getG_nat h0 h1, getT_cut (by rw [h3]; exact going_prefix hg _) (by omega)]
theorem rdN_cut {s : ByteArray} {q n : Int} {l : List UInt8} (h : Cut s q (putL n ++ l)) (n0 : -9223372036854775808 ≤ n) (n1 : n ≤ 9223372036854775807) :
    (rdN s q 0 = (n, q + (putL n).length, 0) ∧ Cut s (q + (putL n).length) l) ∨ (rdN s q 0).2.2 = 2 := by
  unfold rdN; rw [if_pos rfl]; exact get_cut h n0 n1
theorem rdT_cut {s t : ByteArray} {q m : Int} {l : List UInt8} (h : Cut s q (txt t ++ l)) (hm : (t.size : Int) ≤ m) (ht : t.size ≤ 9223372036854775807) :
    (rdT s m q 0 = (t, q + (txt t).length, 0) ∧ Cut s (q + (txt t).length) l) ∨ (rdT s m q 0).2.2 = 2 := by
  unfold rdT; rw [if_pos rfl]
  have hts : t.data.toList.length = t.size := rfl
  by_cases hb : q + (txt t).length ≤ s.size
  · refine .inl ⟨?_, h.next hb⟩
    obtain ⟨h0, h1, u, hu, h2⟩ := h
    have hd := drop_len h0 h1
    have h3 := congrArg (List.take (txt t).length) h2
    rw [List.take_append_of_le_length (by omega), List.take_left] at h3
    have h4 : s.data.toList.drop q.toNat = txt t ++ (s.data.toList.drop q.toNat).drop (txt t).length := by
      conv => lhs; rw [← List.take_append_drop (txt t).length (s.data.toList.drop q.toNat), h3]
    exact take_rest ⟨h0, h1, h4⟩ hm ht
  · right
    rw [txt_len] at hb
    unfold txt at h
    rw [List.append_assoc] at h
    unfold takeG
    rcases get_cut h (by omega) (by omega) with ⟨hg, hn⟩ | hg
    · rw [hg]
      simp only
      rw [if_neg (by simp), if_neg (by omega), if_pos (by omega)]
    · rw [if_pos (by rw [hg]; decide)]
      exact hg
/- What was read. -/
theorem rdN_err {s : ByteArray} {q e : Int} (h : e ≠ 0) : rdN s q e = (0, q, e) := by unfold rdN; rw [if_neg h]
theorem rdT_err {s : ByteArray} {m q e : Int} (h : e ≠ 0) : rdT s m q e = (⟨#[]⟩, q, e) := by unfold rdT; rw [if_neg h]
/-- From q to r stands l. -/
def Span (s : ByteArray) (q r : Int) (l : List UInt8) : Prop := 0 ≤ q ∧ q ≤ r ∧ r ≤ s.size ∧ s.data.toList.drop q.toNat = l ++ s.data.toList.drop r.toNat
theorem Span.join {s : ByteArray} {q r t : Int} {l m : List UInt8} (h : Span s q r l) (k : Span s r t m) : Span s q t (l ++ m) := by
  obtain ⟨a, b, c, d⟩ := h
  obtain ⟨a', b', c', d'⟩ := k
  exact ⟨a, by omega, c', by rw [d, d', List.append_assoc]⟩
theorem Span.nil {s : ByteArray} {q : Int} (h : 0 ≤ q) (k : q ≤ s.size) : Span s q q [] := ⟨h, Int.le_refl _, k, rfl⟩
theorem Span.len {s : ByteArray} {q r : Int} {l : List UInt8} (h : Span s q r l) : r = q + l.length := by
  obtain ⟨a, b, c, d⟩ := h
  have := congrArg List.length d
  rw [List.length_append, drop_len a (by omega), drop_len (by omega) c] at this
  omega
theorem Span.extract {s : ByteArray} {q r : Int} {l : List UInt8} (h : Span s q r l) : s.extract q.toNat r.toNat = ⟨l.toArray⟩ := by
  have hl := h.len
  obtain ⟨a, b, c, d⟩ := h
  apply ByteArray.ext; apply Array.ext'
  rw [extract_list, d, show r.toNat - q.toNat = l.length by omega, List.take_left]
theorem enc_bytes {n : Int} {u : Nat} (h : n = dec u) : putL n = enc u := by unfold putL; rw [h, code_dec]
theorem get_ok {s : ByteArray} {q : Int} (h : (getG s q).2.2 = 0) : Span s q (getG s q).2.1 (putL (getG s q).1) ∧ -9223372036854775808 ≤ (getG s q).1 ∧ (getG s q).1 ≤ 9223372036854775807 := by
  obtain ⟨k, hk, hq, hks, hn⟩ := getG_ok h
  by_cases hin : q < 0 ∨ (s.size : Int) < q
  · unfold getG at h; rw [if_pos hin] at h; simp at h
  · refine ⟨?_, hn⟩
    have h0 : 0 ≤ q := by omega
    have h1 : q ≤ s.size := by omega
    have hl := drop_len h0 h1
    rw [getG_nat h0 h1] at h ⊢
    generalize hd : s.data.toList.drop q.toNat = l at *
    have hc := cont_le 10 l
    unfold getT getR at h ⊢
    by_cases c1 : cont 10 l = 10
    · rw [if_pos c1] at h; simp at h
    · rw [if_neg c1] at h ⊢
      by_cases c2 : l.length ≤ cont 10 l
      · rw [if_pos c2] at h; simp at h
      · rw [if_neg c2] at h ⊢
        by_cases c3 : enc (val (l.take (cont 10 l + 1)) % 18446744073709551616) = l.take (cont 10 l + 1)
        · rw [if_pos c3]
          simp only [if_true]
          refine ⟨h0, by omega, by omega, ?_⟩
          rw [enc_bytes rfl, c3, hd, show (((q.toNat : Nat) : Int) + ((cont 10 l + 1 : Nat) : Int)).toNat = q.toNat + (cont 10 l + 1) by omega, ← List.drop_drop, hd, List.take_append_drop]
        · rw [if_neg c3] at h; simp at h
theorem take_ok {s : ByteArray} {q m : Int} (h : (takeG s q m).2.2 = 0) : Span s q (takeG s q m).2.1 (txt (takeG s q m).1) ∧ ((takeG s q m).1.size : Int) ≤ m := by
  unfold takeG at h ⊢
  by_cases c1 : (getG s q).2.2 ≠ 0
  · rw [if_pos c1] at h; exact absurd h c1
  · have hg := get_ok (by simpa using c1)
    rw [if_neg c1] at h ⊢
    by_cases c2 : (getG s q).1 < 0 ∨ m < (getG s q).1
    · rw [if_pos c2] at h; simp at h
    · rw [if_neg c2] at h ⊢
      by_cases c3 : (s.size : Int) - (getG s q).2.1 < (getG s q).1
      · rw [if_pos c3] at h; simp at h
      · rw [if_neg c3]
        simp only
        generalize (getG s q).1 = n at *
        generalize (getG s q).2.1 = r at *
        obtain ⟨⟨a, b, c, d⟩, _⟩ := hg
        have hz : (s.extract r.toNat (r + n).toNat).size = n.toNat := by rw [ByteArray.size_extract]; omega
        refine ⟨?_, by rw [hz]; omega⟩
        unfold txt
        rw [hz, Int.toNat_of_nonneg (by omega)]
        refine Span.join ⟨a, b, c, d⟩ ⟨by omega, by omega, by omega, ?_⟩
        rw [extract_list, show (r + n).toNat = r.toNat + n.toNat by omega, show r.toNat + n.toNat - r.toNat = n.toNat by omega, ← List.drop_drop, List.take_append_drop]
theorem rdN_ok {s : ByteArray} {q e : Int} (h : (rdN s q e).2.2 = 0) : e = 0 ∧ Span s q (rdN s q e).2.1 (putL (rdN s q e).1) ∧ -9223372036854775808 ≤ (rdN s q e).1 ∧ (rdN s q e).1 ≤ 9223372036854775807 := by
  by_cases he : e = 0
  · subst he
    unfold rdN at h ⊢
    rw [if_pos rfl] at h ⊢
    exact ⟨rfl, get_ok h⟩
  · rw [rdN_err he] at h; exact absurd h he
theorem rdT_ok {s : ByteArray} {m q e : Int} (h : (rdT s m q e).2.2 = 0) : e = 0 ∧ Span s q (rdT s m q e).2.1 (txt (rdT s m q e).1) ∧ ((rdT s m q e).1.size : Int) ≤ m := by
  by_cases he : e = 0
  · subst he
    unfold rdT at h ⊢
    rw [if_pos rfl] at h ⊢
    exact ⟨rfl, take_ok h⟩
  · rw [rdT_err he] at h; exact absurd h he
end Go.Proofs.YtjnphajkoopkgaaGreatDoor
