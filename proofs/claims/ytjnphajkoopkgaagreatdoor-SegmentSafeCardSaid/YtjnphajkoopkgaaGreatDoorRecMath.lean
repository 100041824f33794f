/- Records as bytes, in plain words: what was encoded is decoded wherever it stands, cut off it is none, what was decoded is encoded to the same bytes. No condition. -/
import Derived.Test.YtjnphajkoopkgaaGreatDoorRd
namespace Go.Proofs.YtjnphajkoopkgaaGreatDoor
set_option linter.unusedVariables false
structure Rec where
  place : Int
  time : Int
  bare : Bool
  key : ByteArray
  gone : Bool
  value : ByteArray
  heads : List (ByteArray × ByteArray)
abbrev Hd := ByteArray × ByteArray
def recZero : Rec := ⟨0, 0, false, ⟨#[]⟩, false, ⟨#[]⟩, []⟩
def okHead (h : Hd) : Bool := decide (1 ≤ h.1.size ∧ h.1.size ≤ 1000 ∧ h.2.size ≤ 1000)
def okNum (r : Rec) : Bool := decide (0 ≤ r.place ∧ r.place ≤ 49 ∧ 0 ≤ r.time ∧ r.time ≤ 1099511627776)
def okLen (r : Rec) : Bool := decide (r.key.size ≤ 1000 ∧ r.value.size ≤ 1000)
def okFlag (r : Rec) : Bool := !((r.bare && (r.gone || decide (r.key.size ≠ 0))) || (r.gone && decide (r.value.size ≠ 0)))
def okMany (r : Rec) : Bool := decide (r.heads.length ≤ 10)
def okRec (r : Rec) : Bool := okNum r && okLen r && okFlag r && okMany r && r.heads.all okHead
def marks (b g : Bool) : Int := (if b then 1 else 0) + (if g then 2 else 0)
def headL (h : Hd) : List UInt8 := txt h.1 ++ txt h.2
def headsL (hs : List Hd) : List UInt8 := hs.flatMap headL
def encL (r : Rec) : List UInt8 := putL r.place ++ (putL r.time ++ (putL (marks r.bare r.gone) ++ (txt r.key ++ (txt r.value ++ (putL r.heads.length ++ headsL r.heads)))))
def encR (r : Rec) : ByteArray := ⟨(encL r).toArray⟩
theorem headsL_cons (h : Hd) (hs : List Hd) : headsL (h :: hs) = txt h.1 ++ (txt h.2 ++ headsL hs) := by simp [headsL, headL]
theorem headsL_snoc (h : Hd) (hs : List Hd) : headsL (hs ++ [h]) = headsL hs ++ (txt h.1 ++ txt h.2) := by simp [headsL, headL]
/-- Headers read one behind the other, at most k, up to the first error. -/
def rdH (s : ByteArray) : Nat → Int → Int → List Hd × Int × Int
  | 0, q, e => ([], q, e)
  | k + 1, q, e => if e = 0 then
      (((rdT s 1000 q e).1, (rdT s 1000 (rdT s 1000 q e).2.1 (rdT s 1000 q e).2.2).1) ::
        (rdH s k (rdT s 1000 (rdT s 1000 q e).2.1 (rdT s 1000 q e).2.2).2.1 (rdT s 1000 (rdT s 1000 q e).2.1 (rdT s 1000 q e).2.2).2.2).1,
        (rdH s k (rdT s 1000 (rdT s 1000 q e).2.1 (rdT s 1000 q e).2.2).2.1 (rdT s 1000 (rdT s 1000 q e).2.1 (rdT s 1000 q e).2.2).2.2).2)
    else ([], q, e)
theorem rdH_err {s : ByteArray} {k : Nat} {q e : Int} (h : e ≠ 0) : rdH s k q e = ([], q, e) := by
  cases k with
  | zero => rfl
  | succ k => rw [rdH, if_neg h]
theorem rdH_len (s : ByteArray) : ∀ (k : Nat) (q e : Int), (rdH s k q e).1.length ≤ k
  | 0, _, _ => by simp [rdH]
  | k + 1, q, e => by
    rw [rdH]
    split
    · simp only [List.length_cons]
      have := rdH_len s k (rdT s 1000 (rdT s 1000 q e).2.1 (rdT s 1000 q e).2.2).2.1 (rdT s 1000 (rdT s 1000 q e).2.1 (rdT s 1000 q e).2.2).2.2
      omega
    · simp
theorem rdH_enc (s : ByteArray) (l : List UInt8) : ∀ (hs : List Hd) (q : Int), hs.all okHead = true → Rest s q (headsL hs ++ l) → rdH s hs.length q 0 = (hs, q + (headsL hs).length, 0) ∧ Rest s (q + (headsL hs).length) l
  | [], q, _, h => ⟨by simp [rdH, headsL], by simpa [headsL] using h⟩
  | h :: hs, q, ha, hr => by
    simp only [List.all_cons, Bool.and_eq_true] at ha
    have hk := ha.1
    simp only [okHead, decide_eq_true_eq] at hk
    rw [headsL_cons] at hr ⊢
    simp only [List.append_assoc] at hr
    obtain ⟨e1, r1⟩ := rdT_txt (m := 1000) hr (by omega) (by omega)
    obtain ⟨e2, r2⟩ := rdT_txt (m := 1000) r1 (by omega) (by omega)
    obtain ⟨e3, r3⟩ := rdH_enc s l hs _ ha.2 r2
    have hl : q + ((txt h.1 ++ (txt h.2 ++ headsL hs)).length : Int) = q + ((txt h.1).length : Int) + ((txt h.2).length : Int) + ((headsL hs).length : Int) := by simp only [List.length_append]; omega
    rw [hl]
    refine ⟨?_, r3⟩
    rw [List.length_cons, rdH, if_pos rfl, e1]
    simp only
    rw [e2]
    simp only
    rw [e3]
theorem rdH_cut (s : ByteArray) (l : List UInt8) : ∀ (hs : List Hd) (q : Int), hs.all okHead = true → Cut s q (headsL hs ++ l) → (rdH s hs.length q 0 = (hs, q + (headsL hs).length, 0) ∧ Cut s (q + (headsL hs).length) l) ∨ (rdH s hs.length q 0).2.2 = 2
  | [], q, _, h => .inl ⟨by simp [rdH, headsL], by simpa [headsL] using h⟩
  | h :: hs, q, ha, hr => by
    simp only [List.all_cons, Bool.and_eq_true] at ha
    have hk := ha.1
    simp only [okHead, decide_eq_true_eq] at hk
    rw [headsL_cons] at hr ⊢
    simp only [List.append_assoc] at hr
    have hl : q + ((txt h.1 ++ (txt h.2 ++ headsL hs)).length : Int) = q + ((txt h.1).length : Int) + ((txt h.2).length : Int) + ((headsL hs).length : Int) := by simp only [List.length_append]; omega
    rw [hl, List.length_cons, rdH, if_pos rfl]
    rcases rdT_cut (m := 1000) hr (by omega) (by omega) with ⟨e1, r1⟩ | e1
    · rw [e1]
      simp only
      rcases rdT_cut (m := 1000) r1 (by omega) (by omega) with ⟨e2, r2⟩ | e2
      · rw [e2]
        simp only
        rcases rdH_cut s l hs _ ha.2 r2 with ⟨e3, r3⟩ | e3
        · exact .inl ⟨by rw [e3], r3⟩
        · exact .inr e3
      · right
        rw [rdH_err (by rw [e2]; decide)]
        exact e2
    · right
      rw [rdT_err (s := s) (m := 1000) (q := (rdT s 1000 q 0).2.1) (e := (rdT s 1000 q 0).2.2) (by rw [e1]; decide)]
      simp only
      rw [rdH_err (by rw [e1]; decide)]
      exact e1
theorem rdH_ok (s : ByteArray) : ∀ (k : Nat) (q e : Int), (rdH s k q e).2.2 = 0 → 0 ≤ q → q ≤ s.size → e = 0 ∧ Span s q (rdH s k q e).2.1 (headsL (rdH s k q e).1) ∧ (rdH s k q e).1.length = k
  | 0, q, e, h, h0, h1 => ⟨h, by simpa [rdH, headsL] using Span.nil h0 h1, rfl⟩
  | k + 1, q, e, h, h0, h1 => by
    by_cases he : e = 0
    · subst he
      rw [rdH, if_pos rfl] at h ⊢
      simp only at h ⊢
      generalize hx : rdT s 1000 q 0 = x at *
      generalize hy : rdT s 1000 x.2.1 x.2.2 = y at *
      have hye : y.2.2 = 0 := by
        by_cases c : y.2.2 = 0
        · exact c
        · rw [rdH_err c] at h; exact h
      obtain ⟨hxe, hys, _⟩ := rdT_ok (s := s) (m := 1000) (q := x.2.1) (e := x.2.2) (by rw [hy]; exact hye)
      obtain ⟨_, hxs, _⟩ := rdT_ok (s := s) (m := 1000) (q := q) (e := 0) (by rw [hx]; exact hxe)
      rw [hx] at hxs
      rw [hy] at hys
      obtain ⟨_, hz, hzl⟩ := rdH_ok s k y.2.1 y.2.2 h (by have := hys.1; have := hys.2.1; omega) hys.2.2.1
      refine ⟨trivial, ?_, by simpa using hzl⟩
      rw [headsL_cons, ← List.append_assoc]
      exact (hxs.join hys).join hz
    · rw [rdH_err he] at h
      exact absurd h he
/-- All that is read of a record: the numbers and texts, how many headers, the place behind it, the error. -/
structure Raw where
  place : Int × Int × Int
  time : Int × Int × Int
  mark : Int × Int × Int
  key : ByteArray × Int × Int
  value : ByteArray × Int × Int
  many : Int × Int × Int
  heads : List Hd × Int × Int
/-- The error behind how many headers there are. -/
def manyE (n e : Int) : Int := if e = 0 ∧ ¬ (0 ≤ n ∧ n ≤ 10) then 3 else e
def rdPlace (s : ByteArray) (p : Int) := rdN s p 0
def rdTime (s : ByteArray) (p : Int) := rdN s (rdPlace s p).2.1 (rdPlace s p).2.2
def rdMark (s : ByteArray) (p : Int) := rdN s (rdTime s p).2.1 (rdTime s p).2.2
def rdKey (s : ByteArray) (p : Int) := rdT s 1000 (rdMark s p).2.1 (rdMark s p).2.2
def rdValue (s : ByteArray) (p : Int) := rdT s 1000 (rdKey s p).2.1 (rdKey s p).2.2
def rdMany (s : ByteArray) (p : Int) := rdN s (rdValue s p).2.1 (rdValue s p).2.2
def rdHeads (s : ByteArray) (p : Int) := rdH s (rdMany s p).1.toNat (rdMany s p).2.1 (manyE (rdMany s p).1 (rdMany s p).2.2)
def rdRec (s : ByteArray) (p : Int) : Rec := ⟨(rdPlace s p).1, (rdTime s p).1, decide ((rdMark s p).1 = 1 ∨ (rdMark s p).1 = 3), (rdKey s p).1, decide ((rdMark s p).1 = 2 ∨ (rdMark s p).1 = 3), (rdValue s p).1, (rdHeads s p).1⟩
def rdRight (s : ByteArray) (p : Int) : Bool := decide (0 ≤ (rdMark s p).1 ∧ (rdMark s p).1 ≤ 3) && okRec (rdRec s p)
/-- What Decode hands back. -/
def decR (s : ByteArray) (p : Int) : Rec × Int × Int :=
  if (rdHeads s p).2.2 ≠ 0 then (recZero, 0, (rdHeads s p).2.2) else
  if rdRight s p = true then (rdRec s p, (rdHeads s p).2.1, 0) else (recZero, 0, 3)
theorem marks_cases (b g : Bool) : marks b g = 0 ∨ marks b g = 1 ∨ marks b g = 2 ∨ marks b g = 3 := by cases b <;> cases g <;> simp [marks]
theorem marks_bare (b g : Bool) : decide (marks b g = 1 ∨ marks b g = 3) = b := by cases b <;> cases g <;> rfl
theorem marks_gone (b g : Bool) : decide (marks b g = 2 ∨ marks b g = 3) = g := by cases b <;> cases g <;> rfl
theorem marks_of {m : Int} (h : 0 ≤ m ∧ m ≤ 3) : marks (decide (m = 1 ∨ m = 3)) (decide (m = 2 ∨ m = 3)) = m := by
  obtain rfl | rfl | rfl | rfl : m = 0 ∨ m = 1 ∨ m = 2 ∨ m = 3 := by omega
  all_goals rfl
theorem okRec_parts {r : Rec} (h : okRec r = true) : (0 ≤ r.place ∧ r.place ≤ 49 ∧ 0 ≤ r.time ∧ r.time ≤ 1099511627776) ∧ (r.key.size ≤ 1000 ∧ r.value.size ≤ 1000) ∧ r.heads.length ≤ 10 ∧ r.heads.all okHead = true := by
  simp only [okRec, Bool.and_eq_true, okNum, okLen, okMany, decide_eq_true_eq] at h
  exact ⟨h.1.1.1.1, h.1.1.1.2, h.1.2, h.2⟩
theorem dec_enc {s : ByteArray} {r : Rec} {q : Int} {l : List UInt8} (h : okRec r = true) (hr : Rest s q (encL r ++ l)) : decR s q = (r, q + (encL r).length, 0) := by
  obtain ⟨⟨p0, p1, t0, t1⟩, ⟨k1, v1⟩, m1, ha⟩ := okRec_parts h
  have mc := marks_cases r.bare r.gone
  unfold encL at hr
  simp only [List.append_assoc] at hr
  obtain ⟨e1, r1⟩ := rdN_put hr (by omega) (by omega)
  obtain ⟨e2, r2⟩ := rdN_put r1 (by omega) (by omega)
  obtain ⟨e3, r3⟩ := rdN_put r2 (by omega) (by omega)
  obtain ⟨e4, r4⟩ := rdT_txt (m := 1000) r3 (by omega) (by omega)
  obtain ⟨e5, r5⟩ := rdT_txt (m := 1000) r4 (by omega) (by omega)
  obtain ⟨e6, r6⟩ := rdN_put r5 (by omega) (by omega)
  obtain ⟨e7, r7⟩ := rdH_enc s l r.heads _ ha r6
  have f1 : rdPlace s q = _ := e1
  have f2 : rdTime s q = rdN s (rdPlace s q).2.1 (rdPlace s q).2.2 := rfl
  rw [f1] at f2
  replace f2 := f2.trans e2
  have f3 : rdMark s q = rdN s (rdTime s q).2.1 (rdTime s q).2.2 := rfl
  rw [f2] at f3
  replace f3 := f3.trans e3
  have f4 : rdKey s q = rdT s 1000 (rdMark s q).2.1 (rdMark s q).2.2 := rfl
  rw [f3] at f4
  replace f4 := f4.trans e4
  have f5 : rdValue s q = rdT s 1000 (rdKey s q).2.1 (rdKey s q).2.2 := rfl
  rw [f4] at f5
  replace f5 := f5.trans e5
  have f6 : rdMany s q = rdN s (rdValue s q).2.1 (rdValue s q).2.2 := rfl
  rw [f5] at f6
  replace f6 := f6.trans e6
  have f7 : rdHeads s q = rdH s (rdMany s q).1.toNat (rdMany s q).2.1 (manyE (rdMany s q).1 (rdMany s q).2.2) := rfl
  rw [f6] at f7
  simp only [manyE] at f7
  rw [if_neg (by omega), Int.toNat_natCast] at f7
  replace f7 := f7.trans e7
  have f8 : rdRec s q = r := by
    unfold rdRec
    rw [f1, f2, f3, f4, f5, f7]
    simp only
    rw [marks_bare, marks_gone]
  have f9 : rdRight s q = true := by
    unfold rdRight
    rw [f8, h, f3]
    simp
    omega
  unfold decR
  rw [f7, f8, f9]
  simp only [ne_eq, not_true_eq_false, if_false, if_true]
  refine Prod.ext rfl (Prod.ext ?_ rfl)
  simp only [encL, List.length_append]
  omega
theorem dec_cut {s : ByteArray} {r : Rec} {q : Int} (h : okRec r = true) (hr : Cut s q (encL r)) : decR s q = (recZero, 0, 2) := by
  obtain ⟨⟨p0, p1, t0, t1⟩, ⟨k1, v1⟩, m1, ha⟩ := okRec_parts h
  have mc := marks_cases r.bare r.gone
  have key : (rdHeads s q).2.2 = 2 → decR s q = (recZero, 0, 2) := fun hk => by
    unfold decR; rw [hk, if_pos (by decide)]
  refine key ?_
  have s7 : (rdMany s q).2.2 = 2 → (rdHeads s q).2.2 = 2 := fun hk => by
    unfold rdHeads; rw [hk, show manyE (rdMany s q).1 2 = 2 by unfold manyE; rw [if_neg (by omega)], rdH_err (by decide)]
  have s6 : (rdValue s q).2.2 = 2 → (rdHeads s q).2.2 = 2 := fun hk => s7 (by unfold rdMany; rw [hk, rdN_err (by decide)])
  have s5 : (rdKey s q).2.2 = 2 → (rdHeads s q).2.2 = 2 := fun hk => s6 (by unfold rdValue; rw [hk, rdT_err (by decide)])
  have s4 : (rdMark s q).2.2 = 2 → (rdHeads s q).2.2 = 2 := fun hk => s5 (by unfold rdKey; rw [hk, rdT_err (by decide)])
  have s3 : (rdTime s q).2.2 = 2 → (rdHeads s q).2.2 = 2 := fun hk => s4 (by unfold rdMark; rw [hk, rdN_err (by decide)])
  have s2 : (rdPlace s q).2.2 = 2 → (rdHeads s q).2.2 = 2 := fun hk => s3 (by unfold rdTime; rw [hk, rdN_err (by decide)])
  unfold encL at hr
  rcases rdN_cut hr (by omega) (by omega) with ⟨e1, r1⟩ | e1
  · have f1 : rdPlace s q = _ := e1
    rcases rdN_cut r1 (by omega) (by omega) with ⟨e2, r2⟩ | e2
    · have f2 : rdTime s q = rdN s (rdPlace s q).2.1 (rdPlace s q).2.2 := rfl
      rw [f1] at f2
      replace f2 := f2.trans e2
      rcases rdN_cut r2 (by omega) (by omega) with ⟨e3, r3⟩ | e3
      · have f3 : rdMark s q = rdN s (rdTime s q).2.1 (rdTime s q).2.2 := rfl
        rw [f2] at f3
        replace f3 := f3.trans e3
        rcases rdT_cut (m := 1000) r3 (by omega) (by omega) with ⟨e4, r4⟩ | e4
        · have f4 : rdKey s q = rdT s 1000 (rdMark s q).2.1 (rdMark s q).2.2 := rfl
          rw [f3] at f4
          replace f4 := f4.trans e4
          rcases rdT_cut (m := 1000) r4 (by omega) (by omega) with ⟨e5, r5⟩ | e5
          · have f5 : rdValue s q = rdT s 1000 (rdKey s q).2.1 (rdKey s q).2.2 := rfl
            rw [f4] at f5
            replace f5 := f5.trans e5
            rcases rdN_cut r5 (by omega) (by omega) with ⟨e6, r6⟩ | e6
            · have f6 : rdMany s q = rdN s (rdValue s q).2.1 (rdValue s q).2.2 := rfl
              rw [f5] at f6
              replace f6 := f6.trans e6
              rw [← List.append_nil (headsL r.heads)] at r6
              rcases rdH_cut s [] r.heads _ ha r6 with ⟨e7, r7⟩ | e7
              · exact r7.not_nil.elim
              · unfold rdHeads
                rw [f6]
                simp only [manyE]
                rw [if_neg (by omega), Int.toNat_natCast]
                exact e7
            · exact s7 (by unfold rdMany; rw [f5]; exact e6)
          · exact s6 (by unfold rdValue; rw [f4]; exact e5)
        · exact s5 (by unfold rdKey; rw [f3]; exact e4)
      · exact s4 (by unfold rdMark; rw [f2]; exact e3)
    · exact s3 (by unfold rdTime; rw [f1]; exact e2)
  · exact s2 e1
theorem dec_ok {s : ByteArray} {p : Int} (h : (decR s p).2.2 = 0) : okRec (decR s p).1 = true ∧ Span s p (decR s p).2.1 (encL (decR s p).1) := by
  unfold decR at h ⊢
  by_cases he : (rdHeads s p).2.2 = 0
  · rw [if_neg (by simpa using he)] at h ⊢
    by_cases hr : rdRight s p = true
    · rw [if_pos hr]
      have hr' := hr
      simp only [rdRight, Bool.and_eq_true, decide_eq_true_eq] at hr'
      refine ⟨hr'.2, ?_⟩
      have hm : manyE (rdMany s p).1 (rdMany s p).2.2 = 0 := by
        by_cases c : manyE (rdMany s p).1 (rdMany s p).2.2 = 0
        · exact c
        · unfold rdHeads at he; rw [rdH_err c] at he; exact absurd he c
      have hm2 : (rdMany s p).2.2 = 0 ∧ 0 ≤ (rdMany s p).1 ∧ (rdMany s p).1 ≤ 10 := by
        unfold manyE at hm
        by_cases c : (rdMany s p).2.2 = 0 ∧ ¬ (0 ≤ (rdMany s p).1 ∧ (rdMany s p).1 ≤ 10)
        · rw [if_pos c] at hm; cases hm
        · rw [if_neg c] at hm; omega
      obtain ⟨g6, s6, _⟩ := rdN_ok (s := s) (q := (rdValue s p).2.1) (e := (rdValue s p).2.2) hm2.1
      obtain ⟨g5, s5, _⟩ := rdT_ok (s := s) (m := 1000) (q := (rdKey s p).2.1) (e := (rdKey s p).2.2) g6
      obtain ⟨g4, s4, _⟩ := rdT_ok (s := s) (m := 1000) (q := (rdMark s p).2.1) (e := (rdMark s p).2.2) g5
      obtain ⟨g3, s3, _⟩ := rdN_ok (s := s) (q := (rdTime s p).2.1) (e := (rdTime s p).2.2) g4
      obtain ⟨g2, s2, _⟩ := rdN_ok (s := s) (q := (rdPlace s p).2.1) (e := (rdPlace s p).2.2) g3
      obtain ⟨_, s1, _⟩ := rdN_ok (s := s) (q := p) (e := 0) g2
      obtain ⟨_, s7, l7⟩ := rdH_ok s (rdMany s p).1.toNat (rdMany s p).2.1 (manyE (rdMany s p).1 (rdMany s p).2.2) he (by have := s6.1; have := s6.2.1; show 0 ≤ (rdN s _ _).2.1; omega) s6.2.2.1
      have hmk : marks (rdRec s p).bare (rdRec s p).gone = (rdMark s p).1 := marks_of hr'.1
      unfold encL
      rw [hmk]
      have hl : (((rdRec s p).heads.length : Nat) : Int) = (rdMany s p).1 := by
        show ((rdH s _ _ _).1.length : Int) = _
        rw [l7]; omega
      rw [hl]
      exact s1.join (s2.join (s3.join (s4.join (s5.join (s6.join s7)))))
    · rw [if_neg hr] at h; simp at h
  · rw [if_pos he] at h
    exact absurd h he
theorem dec_err {s : ByteArray} {p : Int} (h : (decR s p).2.2 ≠ 0) : (decR s p).1 = recZero ∧ (decR s p).2.1 = 0 := by
  unfold decR at h ⊢
  split
  · exact ⟨rfl, rfl⟩
  · rename_i he
    rw [if_neg he] at h
    split
    · rename_i hr
      rw [if_pos hr] at h; exact absurd rfl h
    · exact ⟨rfl, rfl⟩
end Go.Proofs.YtjnphajkoopkgaaGreatDoor
