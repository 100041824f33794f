/- Merged texts. What each proves is told at its head. -/
import Derived.Test.YtjnphajkoopkgaaGreatDoorNum
import Derived.Test.YtjnphajkoopkgaaGreatDoorProg
import Derived.WalkKit
import Derived.ProofKit
import Derived.LoopTactic
import Derived.Lib.Hide
import Derived.WalkMore
import Derived.WalkLawsBesides
import Derived.Laws.AppendOwn
/- Plain laws of reading numbers and texts one behind the other, up to the first error: what was written is read; what is cut off is not; what was read is what was written. No condition. -/
namespace Go.Proofs.YtjnphajkoopkgaaGreatDoor
set_option linter.unusedVariables false
/-- A reader's next number: behind an error nothing. -/
def rdN (s : ByteArray) (q e : Int) : Int × Int × Int := if e = 0 then getG s q else (0, q, e)
def rdT (s : ByteArray) (m q e : Int) : ByteArray × Int × Int := if e = 0 then takeG s q m else (⟨#[]⟩, q, e)
/-- A text's bytes behind its length. -/
def txt (t : ByteArray) : List UInt8 := putL t.size ++ t.data.toList
theorem txt_textG (t : ByteArray) : (⟨(txt t).toArray⟩ : ByteArray) = textG t := by
  apply ByteArray.ext; simp [txt, textG]
theorem txt_len (t : ByteArray) : (txt t).length = (putL t.size).length + t.size := by simp [txt]
/-- What stands from q on. -/
def Rest (s : ByteArray) (q : Int) (l : List UInt8) : Prop := 0 ≤ q ∧ q ≤ s.size ∧ s.data.toList.drop q.toNat = l
def Cut (s : ByteArray) (q : Int) (l : List UInt8) : Prop := 0 ≤ q ∧ q ≤ s.size ∧ ∃ t, t ≠ [] ∧ s.data.toList.drop q.toNat ++ t = l
theorem drop_len {s : ByteArray} {q : Int} (h0 : 0 ≤ q) (h : q ≤ s.size) : (s.data.toList.drop q.toNat).length = s.size - q.toNat := by simp
theorem Rest.len {s : ByteArray} {q : Int} {l : List UInt8} (h : Rest s q l) : (l.length : Int) = s.size - q := by
  obtain ⟨h0, h1, h2⟩ := h
  rw [← h2, drop_len h0 h1]; omega
theorem Rest.next {s : ByteArray} {q : Int} {a l : List UInt8} (h : Rest s q (a ++ l)) : Rest s (q + a.length) l := by
  have hl := h.len
  obtain ⟨h0, h1, h2⟩ := h
  refine ⟨by omega, by rw [List.length_append] at hl; omega, ?_⟩
  rw [show (q + (a.length : Int)).toNat = q.toNat + a.length by omega, ← List.drop_drop, h2, List.drop_left]
theorem getG_nat {s : ByteArray} {q : Int} (h0 : 0 ≤ q) (h1 : q ≤ s.size) : getG s q = getT q.toNat (s.data.toList.drop q.toNat) := by
  unfold getG; rw [if_neg (by omega)]
theorem get_rest {s : ByteArray} {q n : Int} {l : List UInt8} (h : Rest s q (putL n ++ l)) (n0 : -9223372036854775808 ≤ n) (n1 : n ≤ 9223372036854775807) :
    getG s q = (n, q + (putL n).length, 0) := by
  obtain ⟨h0, h1, h2⟩ := h
  rw [getG_nat h0 h1, h2, getT_put n0 n1, Int.toNat_of_nonneg h0]
theorem rdN_put {s : ByteArray} {q n : Int} {l : List UInt8} (h : Rest s q (putL n ++ l)) (n0 : -9223372036854775808 ≤ n) (n1 : n ≤ 9223372036854775807) :
    rdN s q 0 = (n, q + (putL n).length, 0) ∧ Rest s (q + (putL n).length) l := ⟨by unfold rdN; rw [if_pos rfl, get_rest h n0 n1], h.next⟩
theorem take_rest {s t : ByteArray} {q m : Int} {l : List UInt8} (h : Rest s q (txt t ++ l)) (hm : (t.size : Int) ≤ m) (ht : t.size ≤ 9223372036854775807) :
    takeG s q m = (t, q + (txt t).length, 0) := by
  unfold txt at h ⊢
  rw [List.append_assoc] at h
  have hg := get_rest h (by omega) (by omega)
  have hn := h.next
  have hl := hn.len
  rw [List.length_append] at hl
  have hts : t.data.toList.length = t.size := rfl
  unfold takeG
  rw [hg]
  simp only
  rw [if_neg (by simp), if_neg (by omega), if_neg (by omega)]
  obtain ⟨g0, g1, g2⟩ := hn
  refine Prod.ext ?_ (Prod.ext ?_ rfl)
  · apply ByteArray.ext; apply Array.ext'
    simp only
    rw [extract_list, g2, show (q + (putL t.size).length + (t.size : Int)).toNat - (q + ((putL t.size).length : Int)).toNat = t.data.toList.length by omega, List.take_left]
  · simp only [List.length_append]; omega
theorem rdT_txt {s t : ByteArray} {q m : Int} {l : List UInt8} (h : Rest s q (txt t ++ l)) (hm : (t.size : Int) ≤ m) (ht : t.size ≤ 9223372036854775807) :
    rdT s m q 0 = (t, q + (txt t).length, 0) ∧ Rest s (q + (txt t).length) l := ⟨by unfold rdT; rw [if_pos rfl, take_rest h hm ht], h.next⟩
/- What is cut off. -/
theorem Cut.next {s : ByteArray} {q : Int} {a l : List UInt8} (h : Cut s q (a ++ l)) (hl : q + a.length ≤ s.size) : Cut s (q + a.length) l := by
  obtain ⟨h0, h1, t, ht, h2⟩ := h
  refine ⟨by omega, hl, t, ht, ?_⟩
  have hd := drop_len h0 h1
  rw [show (q + (a.length : Int)).toNat = q.toNat + a.length by omega, ← List.drop_drop]
  have h3 := congrArg (List.drop a.length) h2
  rw [List.drop_append_of_le_length (by omega), List.drop_left] at h3
  exact h3
/- What was read. -/
theorem rdN_err {s : ByteArray} {q e : Int} (h : e ≠ 0) : rdN s q e = (0, q, e) := by unfold rdN; rw [if_neg h]
theorem rdT_err {s : ByteArray} {m q e : Int} (h : e ≠ 0) : rdT s m q e = (⟨#[]⟩, q, e) := by unfold rdT; rw [if_neg h]
/-- From q to r stands l. -/
def Span (s : ByteArray) (q r : Int) (l : List UInt8) : Prop := 0 ≤ q ∧ q ≤ r ∧ r ≤ s.size ∧ s.data.toList.drop q.toNat = l ++ s.data.toList.drop r.toNat
theorem Span.join {s : ByteArray} {q r t : Int} {l m : List UInt8} (h : Span s q r l) (k : Span s r t m) : Span s q t (l ++ m) := by
  obtain ⟨a, b, c, d⟩ := h
  obtain ⟨a', b', c', d'⟩ := k
  exact ⟨a, by omega, c', by rw [d, d', List.append_assoc]⟩
theorem Span.nil {s : ByteArray} {q : Int} (h : 0 ≤ q) (k : q ≤ s.size) : Span s q q [] := ⟨h, Int.le_refl _, k, rfl⟩
theorem Span.len {s : ByteArray} {q r : Int} {l : List UInt8} (h : Span s q r l) : r = q + l.length := by
  obtain ⟨a, b, c, d⟩ := h
  have := congrArg List.length d
  rw [List.length_append, drop_len a (by omega), drop_len (by omega) c] at this
  omega
theorem Span.extract {s : ByteArray} {q r : Int} {l : List UInt8} (h : Span s q r l) : s.extract q.toNat r.toNat = ⟨l.toArray⟩ := by
  have hl := h.len
  obtain ⟨a, b, c, d⟩ := h
  apply ByteArray.ext; apply Array.ext'
  rw [extract_list, d, show r.toNat - q.toNat = l.length by omega, List.take_left]
theorem enc_bytes {n : Int} {u : Nat} (h : n = dec u) : putL n = enc u := by unfold putL; rw [h, code_dec]
theorem get_ok {s : ByteArray} {q : Int} (h : (getG s q).2.2 = 0) : Span s q (getG s q).2.1 (putL (getG s q).1) ∧ -9223372036854775808 ≤ (getG s q).1 ∧ (getG s q).1 ≤ 9223372036854775807 := by
  obtain ⟨k, hk, hq, hks, hn⟩ := getG_ok h
  by_cases hin : q < 0 ∨ (s.size : Int) < q
  · unfold getG at h; rw [if_pos hin] at h; simp at h
  · refine ⟨?_, hn⟩
    have h0 : 0 ≤ q := by omega
    have h1 : q ≤ s.size := by omega
    have hl := drop_len h0 h1
    rw [getG_nat h0 h1] at h ⊢
    generalize hd : s.data.toList.drop q.toNat = l at *
    have hc := cont_le 10 l
    unfold getT getR at h ⊢
    by_cases c1 : cont 10 l = 10
    · rw [if_pos c1] at h; simp at h
    · rw [if_neg c1] at h ⊢
      by_cases c2 : l.length ≤ cont 10 l
      · rw [if_pos c2] at h; simp at h
      · rw [if_neg c2] at h ⊢
        by_cases c3 : enc (val (l.take (cont 10 l + 1)) % 18446744073709551616) = l.take (cont 10 l + 1)
        · rw [if_pos c3]
          simp only [if_true]
          refine ⟨h0, by omega, by omega, ?_⟩
          rw [enc_bytes rfl, c3, hd, show (((q.toNat : Nat) : Int) + ((cont 10 l + 1 : Nat) : Int)).toNat = q.toNat + (cont 10 l + 1) by omega, ← List.drop_drop, hd, List.take_append_drop]
        · rw [if_neg c3] at h; simp at h
theorem take_ok {s : ByteArray} {q m : Int} (h : (takeG s q m).2.2 = 0) : Span s q (takeG s q m).2.1 (txt (takeG s q m).1) ∧ ((takeG s q m).1.size : Int) ≤ m := by
  unfold takeG at h ⊢
  by_cases c1 : (getG s q).2.2 ≠ 0
  · rw [if_pos c1] at h; exact absurd h c1
  · have hg := get_ok (by simpa using c1)
    rw [if_neg c1] at h ⊢
    by_cases c2 : (getG s q).1 < 0 ∨ m < (getG s q).1
    · rw [if_pos c2] at h; simp at h
    · rw [if_neg c2] at h ⊢
      by_cases c3 : (s.size : Int) - (getG s q).2.1 < (getG s q).1
      · rw [if_pos c3] at h; simp at h
      · rw [if_neg c3]
        simp only
        generalize (getG s q).1 = n at *
        generalize (getG s q).2.1 = r at *
        obtain ⟨⟨a, b, c, d⟩, _⟩ := hg
        have hz : (s.extract r.toNat (r + n).toNat).size = n.toNat := by rw [ByteArray.size_extract]; omega
        refine ⟨?_, by rw [hz]; omega⟩
        unfold txt
        rw [hz, Int.toNat_of_nonneg (by omega)]
        refine Span.join ⟨a, b, c, d⟩ ⟨by omega, by omega, by omega, ?_⟩
        rw [extract_list, show (r + n).toNat = r.toNat + n.toNat by omega, show r.toNat + n.toNat - r.toNat = n.toNat by omega, ← List.drop_drop, List.take_append_drop]
theorem rdN_ok {s : ByteArray} {q e : Int} (h : (rdN s q e).2.2 = 0) : e = 0 ∧ Span s q (rdN s q e).2.1 (putL (rdN s q e).1) ∧ -9223372036854775808 ≤ (rdN s q e).1 ∧ (rdN s q e).1 ≤ 9223372036854775807 := by
  by_cases he : e = 0
  · subst he
    unfold rdN at h ⊢
    rw [if_pos rfl] at h ⊢
    exact ⟨rfl, get_ok h⟩
  · rw [rdN_err he] at h; exact absurd h he
theorem rdT_ok {s : ByteArray} {m q e : Int} (h : (rdT s m q e).2.2 = 0) : e = 0 ∧ Span s q (rdT s m q e).2.1 (txt (rdT s m q e).1) ∧ ((rdT s m q e).1.size : Int) ≤ m := by
  by_cases he : e = 0
  · subst he
    unfold rdT at h ⊢
    rw [if_pos rfl] at h ⊢
    exact ⟨rfl, take_ok h⟩
  · rw [rdT_err he] at h; exact absurd h he
end Go.Proofs.YtjnphajkoopkgaaGreatDoor
/- Records as bytes, in plain words: what was encoded is decoded wherever it stands, cut off it is none, what was decoded is encoded to the same bytes. No condition. -/
namespace Go.Proofs.YtjnphajkoopkgaaGreatDoor
set_option linter.unusedVariables false
structure Rec where
  place : Int
  time : Int
  bare : Bool
  key : ByteArray
  gone : Bool
  value : ByteArray
  heads : List (ByteArray × ByteArray)
abbrev Hd := ByteArray × ByteArray
def recZero : Rec := ⟨0, 0, false, ⟨#[]⟩, false, ⟨#[]⟩, []⟩
def okHead (h : Hd) : Bool := decide (1 ≤ h.1.size ∧ h.1.size ≤ 1000 ∧ h.2.size ≤ 1000)
def okNum (r : Rec) : Bool := decide (0 ≤ r.place ∧ r.place ≤ 49 ∧ 0 ≤ r.time ∧ r.time ≤ 1099511627776)
def okLen (r : Rec) : Bool := decide (r.key.size ≤ 1000 ∧ r.value.size ≤ 1000)
def okFlag (r : Rec) : Bool := !((r.bare && (r.gone || decide (r.key.size ≠ 0))) || (r.gone && decide (r.value.size ≠ 0)))
def okMany (r : Rec) : Bool := decide (r.heads.length ≤ 10)
def okRec (r : Rec) : Bool := okNum r && okLen r && okFlag r && okMany r && r.heads.all okHead
def marks (b g : Bool) : Int := (if b then 1 else 0) + (if g then 2 else 0)
def headL (h : Hd) : List UInt8 := txt h.1 ++ txt h.2
def headsL (hs : List Hd) : List UInt8 := hs.flatMap headL
def encL (r : Rec) : List UInt8 := putL r.place ++ (putL r.time ++ (putL (marks r.bare r.gone) ++ (txt r.key ++ (txt r.value ++ (putL r.heads.length ++ headsL r.heads)))))
def encR (r : Rec) : ByteArray := ⟨(encL r).toArray⟩
theorem headsL_cons (h : Hd) (hs : List Hd) : headsL (h :: hs) = txt h.1 ++ (txt h.2 ++ headsL hs) := by simp [headsL, headL]
theorem headsL_snoc (h : Hd) (hs : List Hd) : headsL (hs ++ [h]) = headsL hs ++ (txt h.1 ++ txt h.2) := by simp [headsL, headL]
/-- Headers read one behind the other, at most k, up to the first error. -/
def rdH (s : ByteArray) : Nat → Int → Int → List Hd × Int × Int
  | 0, q, e => ([], q, e)
  | k + 1, q, e => if e = 0 then
      (((rdT s 1000 q e).1, (rdT s 1000 (rdT s 1000 q e).2.1 (rdT s 1000 q e).2.2).1) ::
        (rdH s k (rdT s 1000 (rdT s 1000 q e).2.1 (rdT s 1000 q e).2.2).2.1 (rdT s 1000 (rdT s 1000 q e).2.1 (rdT s 1000 q e).2.2).2.2).1,
        (rdH s k (rdT s 1000 (rdT s 1000 q e).2.1 (rdT s 1000 q e).2.2).2.1 (rdT s 1000 (rdT s 1000 q e).2.1 (rdT s 1000 q e).2.2).2.2).2)
    else ([], q, e)
theorem rdH_err {s : ByteArray} {k : Nat} {q e : Int} (h : e ≠ 0) : rdH s k q e = ([], q, e) := by
  cases k with
  | zero => rfl
  | succ k => rw [rdH, if_neg h]
theorem rdH_len (s : ByteArray) : ∀ (k : Nat) (q e : Int), (rdH s k q e).1.length ≤ k
  | 0, _, _ => by simp [rdH]
  | k + 1, q, e => by
    rw [rdH]
    split
    · simp only [List.length_cons]
      have := rdH_len s k (rdT s 1000 (rdT s 1000 q e).2.1 (rdT s 1000 q e).2.2).2.1 (rdT s 1000 (rdT s 1000 q e).2.1 (rdT s 1000 q e).2.2).2.2
      omega
    · simp
theorem rdH_enc (s : ByteArray) (l : List UInt8) : ∀ (hs : List Hd) (q : Int), hs.all okHead = true → Rest s q (headsL hs ++ l) → rdH s hs.length q 0 = (hs, q + (headsL hs).length, 0) ∧ Rest s (q + (headsL hs).length) l
  | [], q, _, h => ⟨by simp [rdH, headsL], by simpa [headsL] using h⟩
  | h :: hs, q, ha, hr => by
    simp only [List.all_cons, Bool.and_eq_true] at ha
    have hk := ha.1
    simp only [okHead, decide_eq_true_eq] at hk
    rw [headsL_cons] at hr ⊢
    simp only [List.append_assoc] at hr
    obtain ⟨e1, r1⟩ := rdT_txt (m := 1000) hr (by omega) (by omega)
    obtain ⟨e2, r2⟩ := rdT_txt (m := 1000) r1 (by omega) (by omega)
    obtain ⟨e3, r3⟩ := rdH_enc s l hs _ ha.2 r2
    have hl : q + ((txt h.1 ++ (txt h.2 ++ headsL hs)).length : Int) = q + ((txt h.1).length : Int) + ((txt h.2).length : Int) + ((headsL hs).length : Int) := by simp only [List.length_append]; omega
    rw [hl]
    refine ⟨?_, r3⟩
    rw [List.length_cons, rdH, if_pos rfl, e1]
    simp only
    rw [e2]
    simp only
    rw [e3]
theorem rdH_ok (s : ByteArray) : ∀ (k : Nat) (q e : Int), (rdH s k q e).2.2 = 0 → 0 ≤ q → q ≤ s.size → e = 0 ∧ Span s q (rdH s k q e).2.1 (headsL (rdH s k q e).1) ∧ (rdH s k q e).1.length = k
  | 0, q, e, h, h0, h1 => ⟨h, by simpa [rdH, headsL] using Span.nil h0 h1, rfl⟩
  | k + 1, q, e, h, h0, h1 => by
    by_cases he : e = 0
    · subst he
      rw [rdH, if_pos rfl] at h ⊢
      simp only at h ⊢
      generalize hx : rdT s 1000 q 0 = x at *
      generalize hy : rdT s 1000 x.2.1 x.2.2 = y at *
      have hye : y.2.2 = 0 := by
        by_cases c : y.2.2 = 0
        · exact c
        · rw [rdH_err c] at h; exact h
      obtain ⟨hxe, hys, _⟩ := rdT_ok (s := s) (m := 1000) (q := x.2.1) (e := x.2.2) (by rw [hy]; exact hye)
      obtain ⟨_, hxs, _⟩ := rdT_ok (s := s) (m := 1000) (q := q) (e := 0) (by rw [hx]; exact hxe)
      rw [hx] at hxs
      rw [hy] at hys
      obtain ⟨_, hz, hzl⟩ := rdH_ok s k y.2.1 y.2.2 h (by have := hys.1; have := hys.2.1; omega) hys.2.2.1
      refine ⟨trivial, ?_, by simpa using hzl⟩
      rw [headsL_cons, ← List.append_assoc]
      exact (hxs.join hys).join hz
    · rw [rdH_err he] at h
      exact absurd h he
/-- All that is read of a record: the numbers and texts, how many headers, the place behind it, the error. -/
structure Raw where
  place : Int × Int × Int
  time : Int × Int × Int
  mark : Int × Int × Int
  key : ByteArray × Int × Int
  value : ByteArray × Int × Int
  many : Int × Int × Int
  heads : List Hd × Int × Int
/-- The error behind how many headers there are. -/
def manyE (n e : Int) : Int := if e = 0 ∧ ¬ (0 ≤ n ∧ n ≤ 10) then 3 else e
def rdPlace (s : ByteArray) (p : Int) := rdN s p 0
def rdTime (s : ByteArray) (p : Int) := rdN s (rdPlace s p).2.1 (rdPlace s p).2.2
def rdMark (s : ByteArray) (p : Int) := rdN s (rdTime s p).2.1 (rdTime s p).2.2
def rdKey (s : ByteArray) (p : Int) := rdT s 1000 (rdMark s p).2.1 (rdMark s p).2.2
def rdValue (s : ByteArray) (p : Int) := rdT s 1000 (rdKey s p).2.1 (rdKey s p).2.2
def rdMany (s : ByteArray) (p : Int) := rdN s (rdValue s p).2.1 (rdValue s p).2.2
def rdHeads (s : ByteArray) (p : Int) := rdH s (rdMany s p).1.toNat (rdMany s p).2.1 (manyE (rdMany s p).1 (rdMany s p).2.2)
def rdRec (s : ByteArray) (p : Int) : Rec := ⟨(rdPlace s p).1, (rdTime s p).1, decide ((rdMark s p).1 = 1 ∨ (rdMark s p).1 = 3), (rdKey s p).1, decide ((rdMark s p).1 = 2 ∨ (rdMark s p).1 = 3), (rdValue s p).1, (rdHeads s p).1⟩
def rdRight (s : ByteArray) (p : Int) : Bool := decide (0 ≤ (rdMark s p).1 ∧ (rdMark s p).1 ≤ 3) && okRec (rdRec s p)
/-- What Decode hands back. -/
def decR (s : ByteArray) (p : Int) : Rec × Int × Int :=
  if (rdHeads s p).2.2 ≠ 0 then (recZero, 0, (rdHeads s p).2.2) else
  if rdRight s p = true then (rdRec s p, (rdHeads s p).2.1, 0) else (recZero, 0, 3)
theorem marks_cases (b g : Bool) : marks b g = 0 ∨ marks b g = 1 ∨ marks b g = 2 ∨ marks b g = 3 := by cases b <;> cases g <;> simp [marks]
theorem marks_bare (b g : Bool) : decide (marks b g = 1 ∨ marks b g = 3) = b := by cases b <;> cases g <;> rfl
theorem marks_gone (b g : Bool) : decide (marks b g = 2 ∨ marks b g = 3) = g := by cases b <;> cases g <;> rfl
theorem marks_of {m : Int} (h : 0 ≤ m ∧ m ≤ 3) : marks (decide (m = 1 ∨ m = 3)) (decide (m = 2 ∨ m = 3)) = m := by
  obtain rfl | rfl | rfl | rfl : m = 0 ∨ m = 1 ∨ m = 2 ∨ m = 3 := by omega
  all_goals rfl
theorem okRec_parts {r : Rec} (h : okRec r = true) : (0 ≤ r.place ∧ r.place ≤ 49 ∧ 0 ≤ r.time ∧ r.time ≤ 1099511627776) ∧ (r.key.size ≤ 1000 ∧ r.value.size ≤ 1000) ∧ r.heads.length ≤ 10 ∧ r.heads.all okHead = true := by
  simp only [okRec, Bool.and_eq_true, okNum, okLen, okMany, decide_eq_true_eq] at h
  exact ⟨h.1.1.1.1, h.1.1.1.2, h.1.2, h.2⟩
theorem dec_enc {s : ByteArray} {r : Rec} {q : Int} {l : List UInt8} (h : okRec r = true) (hr : Rest s q (encL r ++ l)) : decR s q = (r, q + (encL r).length, 0) := by
  obtain ⟨⟨p0, p1, t0, t1⟩, ⟨k1, v1⟩, m1, ha⟩ := okRec_parts h
  have mc := marks_cases r.bare r.gone
  unfold encL at hr
  simp only [List.append_assoc] at hr
  obtain ⟨e1, r1⟩ := rdN_put hr (by omega) (by omega)
  obtain ⟨e2, r2⟩ := rdN_put r1 (by omega) (by omega)
  obtain ⟨e3, r3⟩ := rdN_put r2 (by omega) (by omega)
  obtain ⟨e4, r4⟩ := rdT_txt (m := 1000) r3 (by omega) (by omega)
  obtain ⟨e5, r5⟩ := rdT_txt (m := 1000) r4 (by omega) (by omega)
  obtain ⟨e6, r6⟩ := rdN_put r5 (by omega) (by omega)
  obtain ⟨e7, r7⟩ := rdH_enc s l r.heads _ ha r6
  have f1 : rdPlace s q = _ := e1
  have f2 : rdTime s q = rdN s (rdPlace s q).2.1 (rdPlace s q).2.2 := rfl
  rw [f1] at f2
  replace f2 := f2.trans e2
  have f3 : rdMark s q = rdN s (rdTime s q).2.1 (rdTime s q).2.2 := rfl
  rw [f2] at f3
  replace f3 := f3.trans e3
  have f4 : rdKey s q = rdT s 1000 (rdMark s q).2.1 (rdMark s q).2.2 := rfl
  rw [f3] at f4
  replace f4 := f4.trans e4
  have f5 : rdValue s q = rdT s 1000 (rdKey s q).2.1 (rdKey s q).2.2 := rfl
  rw [f4] at f5
  replace f5 := f5.trans e5
  have f6 : rdMany s q = rdN s (rdValue s q).2.1 (rdValue s q).2.2 := rfl
  rw [f5] at f6
  replace f6 := f6.trans e6
  have f7 : rdHeads s q = rdH s (rdMany s q).1.toNat (rdMany s q).2.1 (manyE (rdMany s q).1 (rdMany s q).2.2) := rfl
  rw [f6] at f7
  simp only [manyE] at f7
  rw [if_neg (by omega), Int.toNat_natCast] at f7
  replace f7 := f7.trans e7
  have f8 : rdRec s q = r := by
    unfold rdRec
    rw [f1, f2, f3, f4, f5, f7]
    simp only
    rw [marks_bare, marks_gone]
  have f9 : rdRight s q = true := by
    unfold rdRight
    rw [f8, h, f3]
    simp
    omega
  unfold decR
  rw [f7, f8, f9]
  simp only [ne_eq, not_true_eq_false, if_false, if_true]
  refine Prod.ext rfl (Prod.ext ?_ rfl)
  simp only [encL, List.length_append]
  omega
theorem dec_ok {s : ByteArray} {p : Int} (h : (decR s p).2.2 = 0) : okRec (decR s p).1 = true ∧ Span s p (decR s p).2.1 (encL (decR s p).1) := by
  unfold decR at h ⊢
  by_cases he : (rdHeads s p).2.2 = 0
  · rw [if_neg (by simpa using he)] at h ⊢
    by_cases hr : rdRight s p = true
    · rw [if_pos hr]
      have hr' := hr
      simp only [rdRight, Bool.and_eq_true, decide_eq_true_eq] at hr'
      refine ⟨hr'.2, ?_⟩
      have hm : manyE (rdMany s p).1 (rdMany s p).2.2 = 0 := by
        by_cases c : manyE (rdMany s p).1 (rdMany s p).2.2 = 0
        · exact c
        · unfold rdHeads at he; rw [rdH_err c] at he; exact absurd he c
      have hm2 : (rdMany s p).2.2 = 0 ∧ 0 ≤ (rdMany s p).1 ∧ (rdMany s p).1 ≤ 10 := by
        unfold manyE at hm
        by_cases c : (rdMany s p).2.2 = 0 ∧ ¬ (0 ≤ (rdMany s p).1 ∧ (rdMany s p).1 ≤ 10)
        · rw [if_pos c] at hm; cases hm
        · rw [if_neg c] at hm; omega
      obtain ⟨g6, s6, _⟩ := rdN_ok (s := s) (q := (rdValue s p).2.1) (e := (rdValue s p).2.2) hm2.1
      obtain ⟨g5, s5, _⟩ := rdT_ok (s := s) (m := 1000) (q := (rdKey s p).2.1) (e := (rdKey s p).2.2) g6
      obtain ⟨g4, s4, _⟩ := rdT_ok (s := s) (m := 1000) (q := (rdMark s p).2.1) (e := (rdMark s p).2.2) g5
      obtain ⟨g3, s3, _⟩ := rdN_ok (s := s) (q := (rdTime s p).2.1) (e := (rdTime s p).2.2) g4
      obtain ⟨g2, s2, _⟩ := rdN_ok (s := s) (q := (rdPlace s p).2.1) (e := (rdPlace s p).2.2) g3
      obtain ⟨_, s1, _⟩ := rdN_ok (s := s) (q := p) (e := 0) g2
      obtain ⟨_, s7, l7⟩ := rdH_ok s (rdMany s p).1.toNat (rdMany s p).2.1 (manyE (rdMany s p).1 (rdMany s p).2.2) he (by have := s6.1; have := s6.2.1; show 0 ≤ (rdN s _ _).2.1; omega) s6.2.2.1
      have hmk : marks (rdRec s p).bare (rdRec s p).gone = (rdMark s p).1 := marks_of hr'.1
      unfold encL
      rw [hmk]
      have hl : (((rdRec s p).heads.length : Nat) : Int) = (rdMany s p).1 := by
        show ((rdH s _ _ _).1.length : Int) = _
        rw [l7]; omega
      rw [hl]
      exact s1.join (s2.join (s3.join (s4.join (s5.join (s6.join s7)))))
    · rw [if_neg hr] at h; simp at h
  · rw [if_pos he] at h
    exact absurd h he
end Go.Proofs.YtjnphajkoopkgaaGreatDoor
/- Records in memory: a list of headers as a slice of structs, a record as a value. Plain words. No condition. -/
namespace Go.Proofs.YtjnphajkoopkgaaGreatDoor
open Go.RowKit
set_option linter.unusedVariables false
/-- A list of headers in memory. -/
def HIn (w : World) (A : Option Addr) (hs : List Hd) : Prop :=
  0 < hs.length → ∃ b off, A = some ⟨b, off, none⟩ ∧ b < w.heap.size ∧ ∀ j h, hs[j]? = some h → w.cell? ⟨b, off + j * 2, none⟩ = some (.string h.1) ∧ w.cell? ⟨b, off + j * 2 + 1, none⟩ = some (.string h.2)
theorem HIn.nil (w : World) (A : Option Addr) : HIn w A [] := fun h => absurd h (by simp)
theorem HIn.below {w w' : World} {A : Option Addr} {hs : List Hd} (h : HIn w A hs) (hb : Below w.heap.size w w') : HIn w' A hs := fun hp => by
  obtain ⟨b, off, e, hlt, hc⟩ := h hp
  exact ⟨b, off, e, Nat.lt_of_lt_of_le hlt hb.size, fun j x hx => ⟨(hb.cell (p := ⟨b, off + j * 2, none⟩) hlt).trans (hc j x hx).1, (hb.cell (p := ⟨b, off + j * 2 + 1, none⟩) hlt).trans (hc j x hx).2⟩⟩
theorem HIn.at_ {w : World} {A : Option Addr} {hs : List Hd} (h : HIn w A hs) {k : Nat} (hk : k < hs.length) :
    ∃ b off, A = some ⟨b, off, none⟩ ∧ b < w.heap.size ∧ w.cell? ⟨b, off + k * 2, none⟩ = some (.string hs[k].1) ∧ w.cell? ⟨b, off + k * 2 + 1, none⟩ = some (.string hs[k].2) := by
  obtain ⟨b, off, e, hlt, hc⟩ := h (by omega)
  obtain ⟨h1, h2⟩ := hc k _ (List.getElem?_eq_getElem hk)
  exact ⟨b, off, e, hlt, h1, h2⟩
/-- A record's cells; the record as a value. -/
def recC (r : Rec) (A : Option Addr) (c : Nat) : Array Value := #[.int .i64 r.place, .int .i64 r.time, .bool r.bare, .string r.key, .bool r.gone, .string r.value, .slice A r.heads.length c]
def recV (r : Rec) (A : Option Addr) (c : Nat) : Value := .agg (recC r A c)
theorem str_nil {s : ByteArray} (h : s.size = 0) : s.toList = [] := by
  rw [show s = ⟨#[]⟩ from ByteArray.ext (Array.eq_empty_of_size_eq_zero h), ByteArray.toList_eq]
theorem list_ne {s : ByteArray} (h : s.size ≠ 0) : s.toList.isEmpty = false := by
  rw [ByteArray.toList_eq]
  cases hl : s.data.toList with
  | nil =>
    exfalso
    apply h
    have : s.data.toList.length = 0 := by rw [hl]; rfl
    exact this
  | cons a l => rfl
theorem list_nn {s : ByteArray} (h : s.size ≠ 0) : ¬ s.toList = [] := fun e => by
  have := list_ne h
  rw [e] at this
  cases this
/-- What a record holds, and what it is in memory. -/
structure RIn (w : World) (r : Rec) (A : Option Addr) (c : Nat) : Prop where
  heads : HIn w A r.heads
  len : r.heads.length ≤ 140737488351232
  key : r.key.size ≤ 1152921504606846976
  value : r.value.size ≤ 1152921504606846976
  each : ∀ h ∈ r.heads, h.1.size ≤ 1152921504606846976 ∧ h.2.size ≤ 1152921504606846976
theorem RIn.below {w w' : World} {r : Rec} {A : Option Addr} {c : Nat} (h : RIn w r A c) (hb : Below w.heap.size w w') : RIn w' r A c := ⟨h.heads.below hb, h.len, h.key, h.value, h.each⟩
end Go.Proofs.YtjnphajkoopkgaaGreatDoor
