/- index: two indexes, one with an entry for each: what they have in common. Plain laws. No condition. -/
import Derived.Test.YtljgiabaekddlaaIxLa
namespace Go.Proofs.Ytljgiabaekddlaa
open Go.RowKit
set_option linter.unusedVariables false
/-- One for every so many bytes, the other one for each. -/
structure Pa (ev : Int) (x y : Ix) (n : Nat) : Prop where
  xw : x.Wf
  yw : y.Wf
  lo : x.lo = y.lo
  lp : x.lp = y.lp
  lt : x.lt = y.lt
  e0 : x.L.length = 0 ↔ y.L.length = 0
  sub : x.L.Sublist y.L
  len : y.L.length = n
  apart : ∀ (i : Nat) (e f : En), x.L[i]? = some e → x.L[i + 1]? = some f → ev ≤ f.2.1 - e.2.1
  evx : x.every = ev
  evy : y.every = 1
theorem Pa.start (ev : Int) : Pa ev ⟨ev, [], 0, 0, 0⟩ ⟨1, [], 0, 0, 0⟩ 0 :=
  ⟨Ix.wf_new _, Ix.wf_new _, rfl, rfl, rfl, Iff.rfl, List.Sublist.refl _, rfl, (fun i e f h => by cases h), rfl, rfl⟩
theorem Pa.ok {ev : Int} {x y : Ix} {n : Nat} (h : Pa ev x y n) (o p t : Int) : x.ok o p t = y.ok o p t := by
  have e : decide (x.L.length = 0) = decide (y.L.length = 0) := by
    by_cases c : x.L.length = 0
    · rw [decide_eq_true c, decide_eq_true (h.e0.1 c)]
    · rw [decide_eq_false c, decide_eq_false (fun d => c (h.e0.2 d))]
  unfold Ix.ok risesB
  rw [e, h.lo, h.lp]
theorem Pa.addE {ev : Int} {x y : Ix} {n : Nat} (h : Pa ev x y n) (o p t : Int) : x.addE o p t = y.addE o p t := by
  unfold Ix.addE
  rw [h.ok]
theorem last_snoc {L : List En} {i : Nat} {z e f : En} (h1 : (L ++ [z])[i]? = some e) (h2 : (L ++ [z])[i + 1]? = some f) : (L[i]? = some e ∧ L[i + 1]? = some f) ∨ (f = z ∧ L.length ≠ 0 ∧ lastP L = e.2.1) := by
  by_cases c : i + 1 < L.length
  · rw [List.getElem?_append_left (by omega)] at h1
    rw [List.getElem?_append_left c] at h2
    exact .inl ⟨h1, h2⟩
  · have hl := (List.getElem?_eq_some_iff.1 h2).1
    rw [List.length_append] at hl
    have hi : i + 1 = L.length := by simp at hl; omega
    rw [List.getElem?_append_left (by omega)] at h1
    rw [hi, List.getElem?_append_right (Nat.le_refl _)] at h2
    have hf : f = z := by simpa using h2.symm
    refine .inr ⟨hf, by omega, ?_⟩
    obtain ⟨e', he', hl', _⟩ := last_at (L := L) (by omega)
    rw [show L.length - 1 = i by omega] at he'
    rw [hl']
    rw [h1] at he'
    injection he' with he'
    rw [he']
theorem Pa.step {ev : Int} {x y : Ix} {n : Nat} (h : Pa ev x y n) {o p t : Int} (hk : x.ok o p t = true) : Pa ev (x.add o p t) (y.add o p t) (n + 1) := by
  have hky : y.ok o p t = true := by rw [← h.ok]; exact hk
  have hxw := Ix.wf_add h.xw o p t
  have hyw := Ix.wf_add h.yw o p t
  have hdy : dueB y p = true := by
    unfold dueB
    by_cases c : y.L.length = 0
    · rw [decide_eq_true c]; rfl
    · obtain ⟨e, he, hle, hem⟩ := last_at c
      have h1 := (h.yw.2 e hem).2.1
      have h2 := (Ix.ok_rises hky (fun e => c (by rw [e]; rfl))).2
      rw [decide_eq_false c, h.evy, hle, Bool.false_or, decide_eq_true_iff]
      omega
  have hx : x.add o p t = ⟨x.every, if dueB x p = true then x.L ++ [(o, p, max x.lt t)] else x.L, o, p, max x.lt t⟩ := by unfold Ix.add; rw [if_pos hk]
  have hy : y.add o p t = ⟨y.every, y.L ++ [(o, p, max y.lt t)], o, p, max y.lt t⟩ := by unfold Ix.add; rw [if_pos hky, if_pos hdy]
  have hne := Ix.add_ne hk
  have hney := Ix.add_ne hky
  refine ⟨hxw, hyw, by rw [hx, hy], by rw [hx, hy], by rw [hx, hy, h.lt], ⟨fun c => absurd (List.length_eq_zero_iff.1 c) hne, fun c => absurd (List.length_eq_zero_iff.1 c) hney⟩, ?_, ?_, ?_, by rw [hx]; exact h.evx, by rw [hy]; exact h.evy⟩
  · rw [hx, hy, h.lt]
    simp only
    split
    · exact h.sub.append (List.Sublist.refl _)
    · exact h.sub.trans (List.sublist_append_left _ _)
  · rw [hy]
    simp [h.len]
  · intro i e f h1 h2
    rw [hx] at h1 h2
    simp only at h1 h2
    by_cases hd : dueB x p = true
    · rw [if_pos hd] at h1 h2
      rcases last_snoc h1 h2 with ⟨a, b⟩ | ⟨a, b, c⟩
      · exact h.apart i e f a b
      · subst a
        unfold dueB at hd
        rw [decide_eq_false b, Bool.false_or, decide_eq_true_iff, h.evx, c] at hd
        exact hd
    · rw [if_neg hd] at h1 h2
      exact h.apart i e f h1 h2
theorem aheadG_mem {L : List En} {Q : En → Bool} (hp : L.Pairwise (fun e f => Q e = true → Q f = true)) (hs : Srt L) {e : En} (he : e ∈ L) (hq : Q e = false) : e.2.1 ≤ aheadG L Q := by
  have hm : e ∈ L.takeWhile fun e => !Q e := by
    rw [← List.takeWhile_append_dropWhile (p := fun e => !Q e) (l := L)] at he
    rcases List.mem_append.1 he with h | h
    · exact h
    · exfalso
      cases hd : L.dropWhile (fun e => !Q e) with
      | nil => rw [hd] at h; cases h
      | cons z l =>
        have hz : Q z = true := by
          have := List.head_dropWhile_not (fun e => !Q e) (l := L) (by rw [hd]; simp)
          simp only [hd, List.head_cons] at this
          simpa using this
        have hp2 : (z :: l).Pairwise (fun e f => Q e = true → Q f = true) := by rw [← hd]; exact hp.sublist (List.dropWhile_sublist _)
        rw [hd] at h
        rcases List.mem_cons.1 h with rfl | h
        · rw [hq] at hz; cases hz
        · have := (List.pairwise_cons.1 hp2).1 e h hz
          rw [hq] at this
          cases this
  have hs2 : Srt (L.takeWhile fun e => !Q e) := hs.sublist (List.takeWhile_sublist _)
  unfold aheadG
  generalize (L.takeWhile fun e => !Q e) = M at *
  cases hl : M.getLast? with
  | none => rw [List.getLast?_eq_none_iff] at hl; rw [hl] at hm; cases hm
  | some z =>
    show e.2.1 ≤ z.2.1
    obtain ⟨j, hj⟩ := List.getElem?_of_mem hm
    have hjl := (List.getElem?_eq_some_iff.1 hj).1
    rw [List.getLast?_eq_getElem?] at hl
    exact (hs2.le (by omega) hj hl).2.1
theorem aheadG_sub {L M : List En} {Q : En → Bool} (hsub : L.Sublist M) (hp : M.Pairwise (fun e f => Q e = true → Q f = true)) (hs : Srt M) (h0 : ∀ e ∈ M, 0 ≤ e.2.1) : aheadG L Q ≤ aheadG M Q := by
  have hz : 0 ≤ aheadG M Q := by
    unfold aheadG
    cases hl : (M.takeWhile fun e => !Q e).getLast? with
    | none => exact Int.le_refl _
    | some z => exact h0 z (List.takeWhile_subset _ (List.mem_of_getLast? hl))
  unfold aheadG
  cases hl : (L.takeWhile fun e => !Q e).getLast? with
  | none => exact hz
  | some z =>
    have hm := List.mem_of_getLast? hl
    have hq : Q z = false := by
      have := List.all_eq_true.1 (List.all_takeWhile (p := fun e => !Q e) (l := L)) z hm
      simpa using this
    exact aheadG_mem hp hs (hsub.subset (List.takeWhile_subset _ hm)) hq
end Go.Proofs.Ytljgiabaekddlaa
