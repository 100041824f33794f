/- idem: Check, as plain math over what was heard. No condition. -/
import Derived.Test.YtdhakekndinbeaaImNm
namespace Go.Proofs.Ytdhakekndinbeaa
open Go.RowKit
set_option linter.unusedVariables false
/-- The last one, of the first k, that has these numbers. -/
def findL (L : List SN) (q p : Int) : Nat → Option Int
  | 0 => none
  | k + 1 => match L[k]? with
    | some s => if s.1 = q ∧ s.2.2 = p then some s.2.1 else findL L q p k
    | none => findL L q p k
def nextL (L : List SN) : Int := match L[L.length - 1]? with | some s => s.1 + s.2.2 | none => 0
theorem findW_L (R : Nat → SN) (f c : Nat) (q p : Int) : ∀ k, k ≤ c → findW R f q p k = findL (winL R f c) q p k
  | 0, _ => rfl
  | k + 1, h => by
    unfold findW findL
    rw [winL_at (by omega), findW_L R f c q p k (by omega)]
theorem nextW_L (R : Nat → SN) (f c : Nat) : nextW R f c = nextL (winL R f c) := by
  unfold nextW nextL
  rw [winL_len]
  by_cases h : c = 0
  · subst h
    rw [if_pos rfl]
    rfl
  · rw [if_neg h, winL_at (by omega)]
/-- Check, as the document has it, of one that may have been heard. -/
def chkGO (o : Option GH) (b : BN) : Int × Bool × Int :=
  match o with
  | none => if b.seq = 0 then (0, false, 0) else (0, false, 9)
  | some y =>
    if b.epoch < y.2.1 then (0, false, 8)
    else if b.epoch = y.2.1 then
      match findL y.2.2 b.seq b.span y.2.2.length with
      | some k => (k, true, 0)
      | none => if b.seq = nextL y.2.2 then (0, false, 0) else (0, false, 9)
    else if b.seq = 0 then (0, false, 0) else (0, false, 9)
def chkG (G : List GH) (b : BN) : Int × Bool × Int :=
  if b.prod = -1 then (0, false, 0) else if bnB { b with base := 0 } = true then chkGO (findG G b.prod) b else (0, false, 1)
theorem chk_abs (F : List HE) (b : BN) : chkF F b = chkG (absF F) b := by
  unfold chkF chkG
  rw [abs_find]
  have h : chkO (ofId F b.prod) b = chkGO ((ofId F b.prod).map absH) b := by
    cases ofId F b.prod with
    | none => rfl
    | some x =>
      show chkO (some x) b = chkGO (some (absH x)) b
      unfold chkO chkGO absH
      simp only
      rw [winL_len, ← findW_L x.R x.f x.c b.seq b.span x.c (Nat.le_refl _), ← nextW_L]
      split
      · rfl
      · split
        · cases findW x.R x.f b.seq b.span x.c <;> rfl
        · rfl
  rw [h]
/-- A producer's epoch, as the document has it. -/
def epoG (G : List GH) (n : Int) : Int := match findG G n with | some y => y.2.1 | none => -1
theorem epo_abs (F : List HE) (n : Int) : epochG F n = epoG (absF F) n := by
  unfold epochG epoG
  rw [abs_find]
  cases ofId F n <;> rfl
/-- Note keeps the numbers rising, each window within five, and all numbers within the document's bounds. -/
structure GOk (G : List GH) : Prop where
  rise : G.Pairwise fun a b => a.1 < b.1
  num : ∀ y ∈ G, (0 ≤ y.1 ∧ y.1 ≤ 1073741824) ∧ (0 ≤ y.2.1 ∧ y.2.1 ≤ 32768) ∧ 1 ≤ y.2.2.length ∧ y.2.2.length ≤ 5
  sent : ∀ y ∈ G, ∀ s ∈ y.2.2, (0 ≤ s.1 ∧ s.1 ≤ 1073741824) ∧ (0 ≤ s.2.1 ∧ s.2.1 ≤ 1099511627776) ∧ (1 ≤ s.2.2 ∧ s.2.2 ≤ 50)
theorem GOk.nil : GOk [] := ⟨.nil, (fun y h => by cases h), (fun y h => by cases h)⟩
theorem insG_perm (x : GH) : ∀ G : List GH, (insG x G).Perm (x :: G)
  | [] => .refl _
  | y :: r => by
    unfold insG
    split
    · exact .refl _
    · exact ((insG_perm x r).cons y).trans (.swap x y r)
theorem insG_mem {x g : GH} {G : List GH} : g ∈ insG x G ↔ g = x ∨ g ∈ G := by rw [(insG_perm x G).mem_iff, List.mem_cons]
theorem putG_mem {x g : GH} {G : List GH} : g ∈ putG x G ↔ g = x ∨ (g ∈ G ∧ g.1 ≠ x.1) := by
  unfold putG
  rw [insG_mem, List.mem_filter]
  simp
theorem insG_rise {x : GH} : ∀ {G : List GH}, G.Pairwise (fun a b => a.1 < b.1) → (∀ g ∈ G, g.1 ≠ x.1) → (insG x G).Pairwise fun a b => a.1 < b.1
  | [], _, _ => by unfold insG; exact .cons (by simp) .nil
  | y :: r, h, hne => by
    have hy := hne y (by simp)
    unfold insG
    cases h with
    | cons h1 h2 =>
    split
    · rename_i hlt
      refine .cons (fun g hg => ?_) (.cons h1 h2)
      rcases List.mem_cons.1 hg with e | e
      · rw [e]; exact hlt
      · have := h1 g e; omega
    · refine .cons (fun g hg => ?_) (insG_rise h2 (fun g hg => hne g (List.mem_cons_of_mem _ hg)))
      rcases insG_mem.1 hg with e | e
      · rw [e]; omega
      · exact h1 g e
theorem putG_rise {x : GH} {G : List GH} (h : G.Pairwise fun a b => a.1 < b.1) : (putG x G).Pairwise fun a b => a.1 < b.1 := by
  unfold putG
  refine insG_rise (h.sublist List.filter_sublist) fun g hg => ?_
  have := (List.mem_filter.1 hg).2
  simpa using this
theorem addL_len {L : List SN} {s : SN} (h : L.length ≤ 5) : 1 ≤ (addL L s).length ∧ (addL L s).length ≤ 5 := by
  unfold addL
  split <;> simp <;> omega
theorem addL_mem {L : List SN} {s t : SN} (h : t ∈ addL L s) : t = s ∨ t ∈ L := by
  unfold addL at h
  rcases List.mem_append.1 h with h | h
  · split at h
    · exact .inr (List.mem_of_mem_tail h)
    · exact .inr h
  · exact .inl (by simpa using h)
theorem GOk.note {G : List GH} (h : GOk G) (b : BN) : GOk (noteG G b) := by
  unfold noteG
  by_cases hb : bnB b = true
  · rw [if_pos hb]
    obtain ⟨b1, b2, b3, b4, b5⟩ := bnB_of hb
    have hput : GOk (putG (b.prod, b.epoch, [(b.seq, b.base, b.span)]) G) := by
      refine ⟨putG_rise h.rise, fun y hy => ?_, fun y hy s hs => ?_⟩
      · rcases putG_mem.1 hy with e | ⟨e, _⟩
        · subst e
          exact ⟨b1, b2, by simp, by simp⟩
        · exact h.num y e
      · rcases putG_mem.1 hy with e | ⟨e, _⟩
        · subst e
          have : s = (b.seq, b.base, b.span) := by simpa using hs
          subst this
          exact ⟨b3, b5, b4⟩
        · exact h.sent y e s hs
    cases findG G b.prod with
    | none => exact hput
    | some y =>
      simp only
      split
      · exact h
      · split
        · exact hput
        · unfold moreG
          refine ⟨?_, fun z hz => ?_, fun z hz s hs => ?_⟩
          · rw [List.pairwise_map]
            refine h.rise.imp fun {a c} hac => ?_
            split <;> split <;> exact hac
          · obtain ⟨u, hu, rfl⟩ := List.mem_map.1 hz
            have := h.num u hu
            split
            · exact ⟨this.1, this.2.1, addL_len this.2.2.2⟩
            · exact this
          · obtain ⟨u, hu, rfl⟩ := List.mem_map.1 hz
            split at hs
            · rcases addL_mem hs with e | e
              · subst e; exact ⟨b3, b5, b4⟩
              · exact h.sent u hu s e
            · exact h.sent u hu s hs
  · rw [if_neg hb]
    exact h
end Go.Proofs.Ytdhakekndinbeaa
