/- topic: a table as the document has it: made, gone, found; plain words. No condition. -/
import Derived.Test.YtnpfakjgocnkbaaTpPut
namespace Go.Proofs.Ytnpfakjgocnkbaa
open Go.RowKit
set_option linter.unusedVariables false
/-- A table as the document has it: the next id, its topics. -/
abbrev TS := Int × List TE
def nmB (s : List UInt8) : Bool := decide (1 ≤ s.length) && decide (s.length ≤ 100)
def mayT (s : List UInt8) (k : Int) : Bool := nmB s && (decide (1 ≤ k) && decide (k ≤ 16))
def fullT (t : TS) : Bool := decide (20 ≤ t.2.length) || decide (1073741824 ≤ t.1)
/-- Create: its id, the error. -/
def crR (t : TS) (s : List UInt8) (k : Int) : Int × Int :=
  if mayT s k = false then (0, 1) else if (ofN t.2 s).isSome = true then (0, 14) else if fullT t = true then (0, 5) else (t.1, 0)
def crS (t : TS) (s : List UInt8) (k : Int) : TS := if (crR t s k).2 = 0 then (t.1 + 1, insT ⟨s, t.1, k⟩ t.2) else t
/-- Delete: its id, the error. -/
def deR (t : TS) (s : List UInt8) : Int × Int := match ofN t.2 s with | some e => (e.id, 0) | none => (0, 6)
def deS (t : TS) (s : List UInt8) : TS := (t.1, minT t.2 s)
/-- Find: its id, of how many, the error. -/
def fiR (t : TS) (s : List UInt8) : Int × Int × Int := match ofN t.2 s with | some e => (e.id, e.parts, 0) | none => (0, 0, 6)
/-- What holds of every table. -/
structure TOk (t : TS) : Prop where
  rise : t.2.Pairwise fun a b => bytesBefore a.name b.name = true
  next : 0 ≤ t.1 ∧ t.1 ≤ 1073741824
  many : t.2.length ≤ 20
  ids : ∀ e ∈ t.2, 0 ≤ e.id ∧ e.id < t.1
  parts : ∀ e ∈ t.2, 1 ≤ e.parts ∧ e.parts ≤ 16
  names : ∀ e ∈ t.2, 1 ≤ e.name.length ∧ e.name.length ≤ 100
  apart : t.2.Pairwise fun a b => a.id ≠ b.id
theorem TOk.new : TOk (0, []) := ⟨.nil, by decide, by decide, (fun e h => by cases h), (fun e h => by cases h), (fun e h => by cases h), .nil⟩
theorem crR_ok {t : TS} {s : List UInt8} {k : Int} (h : (crR t s k).2 = 0) : mayT s k = true ∧ ofN t.2 s = none ∧ fullT t = false ∧ crR t s k = (t.1, 0) := by
  unfold crR at *
  split at h
  · exact absurd (show (1 : Int) = 0 from h) (by decide)
  · rename_i h1
    split at h
    · exact absurd (show (14 : Int) = 0 from h) (by decide)
    · rename_i h2
      split at h
      · exact absurd (show (5 : Int) = 0 from h) (by decide)
      · rename_i h3
        rw [if_neg h1, if_neg h2, if_neg h3]
        exact ⟨by simpa using h1, by simpa using h2, by simpa using h3, rfl⟩
theorem insT_pair {R : TE → TE → Prop} {x : TE} : ∀ {F : List TE}, F.Pairwise R → (∀ g ∈ F, R x g ∧ R g x) → (insT x F).Pairwise R
  | [], _, _ => List.pairwise_singleton _ _
  | y :: r, h, hn => by
    unfold insT
    rw [List.pairwise_cons] at h
    split
    · rw [List.pairwise_cons, List.pairwise_cons]
      exact ⟨fun g hg => (hn g hg).1, h⟩
    · rw [List.pairwise_cons]
      refine ⟨fun g hg => ?_, insT_pair h.2 (fun g hg => hn g (by simp [hg]))⟩
      rcases insT_mem.1 hg with rfl | hg
      · exact (hn y (by simp)).2
      · exact h.1 g hg
theorem mayT_of {s : List UInt8} {k : Int} (h : mayT s k = true) : (1 ≤ s.length ∧ s.length ≤ 100) ∧ (1 ≤ k ∧ k ≤ 16) := by
  unfold mayT nmB at h
  simp only [Bool.and_eq_true, decide_eq_true_eq] at h
  exact h
theorem TOk.create {t : TS} (h : TOk t) (s : List UInt8) (k : Int) : TOk (crS t s k) := by
  unfold crS
  split
  · rename_i hz
    obtain ⟨h1, h2, h3, _⟩ := crR_ok hz
    obtain ⟨m1, m2⟩ := mayT_of h1
    have hf : t.2.length < 20 ∧ t.1 < 1073741824 := by
      unfold fullT at h3
      simp only [Bool.or_eq_false_iff, decide_eq_false_iff_not] at h3
      omega
    have hnx := h.next
    refine ⟨insT_rise h.rise fun g hg e => ?_, by show 0 ≤ t.1 + 1 ∧ t.1 + 1 ≤ _; omega, by show (insT _ _).length ≤ 20; rw [insT_len]; omega, fun e he => ?_, fun e he => ?_, fun e he => ?_, insT_pair h.apart fun g hg => ?_⟩
    · have := List.find?_eq_none.1 h2 g hg
      rw [e] at this
      simp at this
    · show 0 ≤ e.id ∧ e.id < t.1 + 1
      rcases insT_mem.1 he with rfl | he
      · show 0 ≤ t.1 ∧ t.1 < t.1 + 1; omega
      · have := h.ids e he; omega
    · rcases insT_mem.1 he with rfl | he
      · exact m2
      · exact h.parts e he
    · rcases insT_mem.1 he with rfl | he
      · exact m1
      · exact h.names e he
    · have := h.ids g hg
      exact ⟨fun e => by have e : t.1 = g.id := e; omega, fun e => by have e : g.id = t.1 := e; omega⟩
  · exact h
theorem TOk.delete {t : TS} (h : TOk t) (s : List UInt8) : TOk (deS t s) :=
  ⟨minT_rise h.rise, h.next, Nat.le_trans (minT_len _ _) h.many, fun e he => h.ids e (minT_mem.1 he).1, fun e he => h.parts e (minT_mem.1 he).1, fun e he => h.names e (minT_mem.1 he).1, h.apart.sublist List.filter_sublist⟩
end Go.Proofs.Ytnpfakjgocnkbaa
