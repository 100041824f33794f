/- clean: which records stay: plain words. No condition. -/
import Derived.Test.YtdclkhbolmbnmaaDoorClRep
import Derived.Test.YtdclkhbolmbnmaaDoorRecMath
namespace Go.Proofs.YtdclkhbolmbnmaaDoor
open Go.RowKit Go.Maps Go.ChangeMaps Go.WideMaps
set_option linter.unusedVariables false
theorem of_ins {x : TE} {s : List UInt8} : ∀ {F : List TE}, (∀ e ∈ F, e.name ≠ x.name) → ofN (insT x F) s = if s = x.name then some x else ofN F s
  | [], _ => by
    show ofN [x] s = _
    unfold ofN
    by_cases h : s = x.name
    · rw [if_pos h, List.find?_cons_of_pos (by simp [h])]
    · rw [if_neg h, List.find?_cons_of_neg (by simp; exact fun e => h e.symm)]
  | y :: r, hn => by
    have ih := of_ins (x := x) (s := s) (F := r) (fun e he => hn e (by simp [he]))
    unfold insT
    split
    · by_cases h : s = x.name
      · rw [if_pos h]
        unfold ofN
        rw [List.find?_cons_of_pos (by simp [h])]
      · rw [if_neg h]
        unfold ofN
        rw [List.find?_cons_of_neg (by simp; exact fun e => h e.symm)]
    · unfold ofN at ih ⊢
      by_cases hy : y.name = s
      · rw [List.find?_cons_of_pos (by simpa using hy), List.find?_cons_of_pos (by simpa using hy)]
        rw [if_neg (fun e => hn y (by simp) (hy.trans e))]
      · rw [List.find?_cons_of_neg (by simpa using hy), List.find?_cons_of_neg (by simpa using hy), ih]
theorem of_min {F : List TE} {n s : List UInt8} (h : s ≠ n) : ofN (minT F n) s = ofN F s := by
  induction F with
  | nil => rfl
  | cons y r ih =>
    unfold ofN minT at *
    by_cases e : y.name = n
    · rw [List.filter_cons_of_neg (by simp [e]), List.find?_cons_of_neg (by simp [e]; exact fun e => h e.symm)]
      exact ih
    · rw [List.filter_cons_of_pos (by simp [e]), List.find?_cons, List.find?_cons, ih]
theorem of_put {x : TE} {F : List TE} {s : List UInt8} : ofN (putT x F) s = if s = x.name then some x else ofN F s := by
  unfold putT
  rw [of_ins (fun e he => (minT_mem.1 he).2)]
  split
  · rfl
  · rename_i h
    exact of_min h
/-- A record's key. -/
def keyB (r : Rec) : List UInt8 := r.key.data.toList
/-- The places of a batch's records that have a key. -/
def seqR (i : Nat) : Nat → List Rec → List TE
  | _, [] => []
  | j, r :: l => if r.bare then seqR i (j + 1) l else ⟨keyB r, i, j⟩ :: seqR i (j + 1) l
/-- The places of all records that have a key. -/
def seqL : Nat → List (List Rec) → List TE
  | _, [] => []
  | i, R :: l => seqR i 0 R ++ seqL (i + 1) l
def putAll (S F : List TE) : List TE := S.foldl (fun F x => putT x F) F
def lastF (B : List (List Rec)) : List TE := putAll (seqL 0 B) []
theorem putAll_app (S T F : List TE) : putAll (S ++ T) F = putAll T (putAll S F) := by unfold putAll; rw [List.foldl_append]
theorem putAll_rise {S F : List TE} (h : F.Pairwise fun a b => bytesBefore a.name b.name = true) : (putAll S F).Pairwise fun a b => bytesBefore a.name b.name = true := by
  induction S generalizing F with
  | nil => exact h
  | cons x l ih => exact ih (putT_rise h)
theorem putAll_len (S F : List TE) : (putAll S F).length ≤ F.length + S.length := by
  induction S generalizing F with
  | nil => exact Nat.le_refl _
  | cons x l ih =>
    have h1 := ih (putT x F)
    have h2 := putT_len x F
    show (putAll l (putT x F)).length ≤ _
    rw [List.length_cons]
    omega
/-- The last one of a name. -/
def lastN (S : List TE) (s : List UInt8) : Option TE := S.reverse.find? fun e => e.name == s
theorem of_putAll {S F : List TE} {s : List UInt8} : ofN (putAll S F) s = (lastN S s).or (ofN F s) := by
  induction S generalizing F with
  | nil => rfl
  | cons x l ih =>
    show ofN (putAll l (putT x F)) s = _
    rw [ih, of_put]
    unfold lastN
    rw [List.reverse_cons, List.find?_append]
    cases hl : l.reverse.find? (fun e => e.name == s) with
    | some e => rfl
    | none =>
      by_cases h : s = x.name
      · rw [if_pos h, List.find?_cons_of_pos (by simp [h])]
        rfl
      · rw [if_neg h, List.find?_cons_of_neg (by simp; exact fun e => h e.symm)]
        rfl
theorem seqR_len (i : Nat) : ∀ (j : Nat) (R : List Rec), (seqR i j R).length ≤ R.length
  | _, [] => Nat.le_refl _
  | j, r :: l => by
    have := seqR_len i (j + 1) l
    unfold seqR
    split
    · rw [List.length_cons]; omega
    · rw [List.length_cons, List.length_cons]; omega
theorem seqR_snoc (i : Nat) (r : Rec) : ∀ (j : Nat) (R : List Rec), seqR i j (R ++ [r]) = seqR i j R ++ (if r.bare then [] else [⟨keyB r, i, ((j + R.length : Nat) : Int)⟩])
  | j, [] => by
    show seqR i j [r] = [] ++ _
    unfold seqR
    split
    · rw [show seqR i (j + 1) [] = [] from rfl]; rfl
    · rw [show seqR i (j + 1) [] = [] from rfl]; simp
  | j, q :: l => by
    have ih := seqR_snoc i r (j + 1) l
    show seqR i j (q :: (l ++ [r])) = _
    unfold seqR
    rw [ih]
    have e : j + 1 + l.length = j + (q :: l).length := by rw [List.length_cons]; omega
    rw [e]
    split
    · rfl
    · rfl
theorem seqL_snoc (R : List Rec) : ∀ (i : Nat) (B : List (List Rec)), seqL i (B ++ [R]) = seqL i B ++ seqR (i + B.length) 0 R
  | i, [] => by
    show seqR i 0 R ++ seqL (i + 1) [] = [] ++ seqR (i + 0) 0 R
    rw [show seqL (i + 1) [] = [] from rfl]
    simp
  | i, Q :: l => by
    have ih := seqL_snoc R (i + 1) l
    show seqR i 0 Q ++ seqL (i + 1) (l ++ [R]) = _
    rw [ih]
    have e : i + 1 + l.length = i + (Q :: l).length := by rw [List.length_cons]; omega
    rw [e]
    show _ = (seqR i 0 Q ++ seqL (i + 1) l) ++ _
    rw [List.append_assoc]
end Go.Proofs.YtdclkhbolmbnmaaDoor
