/- member: what a group's data keeps. Plain laws. No condition. -/
import Derived.Test.YtlokhhjhckiloaaGreatMbVw
namespace Go.Proofs.YtlokhhjhckiloaaGreat
open Go.RowKit
set_option linter.unusedVariables false
def TOk (T : List ByteArray) : Prop := T.length ≤ 100000 ∧ ∀ s ∈ T, s.size ≤ 281474976710656
def POk (P : List TX) : Prop := P.length ≤ 100000 ∧ ∀ t ∈ P, t.1.size ≤ 281474976710656
/-- Numbers, texts, partitions that a group may have. -/
structure GQ (k : Int) (G : GD) : Prop where
  len : G.L.length ≤ 20
  ss : 0 ≤ G.ss ∧ G.ss ≤ 100000
  rb : 0 ≤ G.rb ∧ G.rb ≤ 100000
  gn : 0 ≤ G.gn ∧ G.gn ≤ k
  nx : 0 ≤ G.nx ∧ G.nx ≤ k
  all : ∀ x ∈ G.L, TOk x.T ∧ POk x.P
/-- Nobody is left only in phase 0. -/
def GN (G : GD) : Prop := G.ph = 0 ∨ G.L ≠ []
theorem POk.nil : POk [] := ⟨by simp, fun t ht => by cases ht⟩
theorem TOk.nil : TOk [] := ⟨by simp, fun t ht => by cases ht⟩
section
variable {k : Int} {G : GD}
theorem GQ.bd (h : GQ k G) : GBd G := ⟨by have := h.len; omega, h.ss, h.rb⟩
theorem GQ.mono {j : Int} (h : GQ k G) (hj : k ≤ j) : GQ j G := ⟨h.len, h.ss, h.rb, ⟨h.gn.1, by have := h.gn.2; omega⟩, ⟨h.nx.1, by have := h.nx.2; omega⟩, h.all⟩
theorem GQ.drop (h : GQ k G) (f : MD → Bool) : GQ k (dropD f G) := ⟨Nat.le_trans (List.length_filter_le _ _) h.len, h.ss, h.rb, h.gn, h.nx, fun x hx => h.all x (List.mem_filter.1 hx).1⟩
theorem GQ.enter (h : GQ k G) (ph now : Int) : GQ k (enterD ph now G) := ⟨by rw [enterD_L]; exact h.len, by rw [enterD_ss]; exact h.ss, by rw [enterD_rb]; exact h.rb, by rw [enterD_gn]; exact h.gn, by rw [enterD_nx]; exact h.nx, by rw [enterD_L]; exact h.all⟩
theorem GQ.begin (h : GQ k G) (now : Int) : GQ k (beginD now G) := by
  unfold beginD
  have h2 : GQ k { G with L := G.L.map fun x => { x with j := false, P := [] } } := ⟨by show (G.L.map _).length ≤ 20; rw [List.length_map]; exact h.len, h.ss, h.rb, h.gn, h.nx, fun x hx => by
    obtain ⟨y, hy, rfl⟩ := List.mem_map.1 hx
    exact ⟨(h.all y hy).1, POk.nil⟩⟩
  exact h2.enter _ _
theorem GQ.more (h : GQ k G) : GQ (k + 1) (moreD G) := by
  unfold moreD
  split
  · exact h.mono (by omega)
  · exact ⟨h.len, h.ss, h.rb, ⟨by have := h.gn.1; show 0 ≤ G.gn + 1; omega, by have := h.gn.2; show G.gn + 1 ≤ k + 1; omega⟩, ⟨h.nx.1, by have := h.nx.2; show G.nx ≤ k + 1; omega⟩, h.all⟩
theorem GQ.close (h : GQ k G) (now : Int) : GQ (k + 1) (closeD now G) := (h.drop _).more.enter _ _
theorem GQ.whole (h : GQ k G) (now : Int) : GQ (k + 1) (wholeD now G) := by
  unfold wholeD
  split
  · exact h.mono (by omega)
  · exact h.close now
theorem GQ.goOn (h : GQ k G) (now : Int) : GQ (k + 1) (goOnD now G) := by
  unfold goOnD
  split
  · exact h.whole now
  · exact (h.begin now).mono (by omega)
theorem GQ.tick1 (h : GQ k G) (now : Int) : GQ (k + 1) (tick1D now G) := by
  unfold tick1D
  split
  · exact (h.drop _).goOn now
  · exact (h.drop _).mono (by omega)
theorem GQ.tick2 (h : GQ k G) (now : Int) : GQ (k + 1) (tick2D now G) := by
  unfold tick2D
  split
  · exact h.mono (by omega)
  · split
    · exact h.close now
    · split
      · exact ((h.drop _).begin now).mono (by omega)
      · exact h.mono (by omega)
theorem GQ.tick (h : GQ k G) (now : Int) : GQ (k + 2) (tickD now G) := by
  unfold tickD
  split
  · exact ((h.tick1 now).tick2 now).mono (by omega)
  · exact h.mono (by omega)
theorem GQ.leave (h : GQ k G) (m now : Int) : GQ (k + 1) (leaveD m now G) := by
  unfold leaveD
  split
  · split
    · exact (h.drop _).goOn now
    · exact (h.drop _).mono (by omega)
  · exact h.mono (by omega)
theorem GQ.set (h : GQ k G) (i : Nat) (y : MD) (hy : TOk y.T ∧ POk y.P) : GQ k { G with L := G.L.set i y } := ⟨by show (G.L.set _ _).length ≤ 20; rw [List.length_set]; exact h.len, h.ss, h.rb, h.gn, h.nx, fun x hx => by
  rcases List.mem_or_eq_of_mem_set hx with hx | rfl
  · exact h.all x hx
  · exact hy⟩
theorem GQ.hear (h : GQ k G) (i : Nat) (now : Int) : GQ k (hearD i now G) := by
  unfold hearD
  cases hx : G.L[i]? with
  | none => exact h
  | some x => exact h.set i _ (h.all x (List.mem_of_getElem? hx))
theorem GQ.beat (h : GQ k G) (m gen now : Int) : GQ k (beatD m gen now G) := by
  unfold beatD
  split
  · cases posM m G.L with
    | none => exact h
    | some i => exact h.hear i now
  · exact h
theorem GQ.joinAt (h : GQ k G) (i : Nat) (T : List ByteArray) (hT : TOk T) (now : Int) : GQ k (joinAt i T now G) := by
  unfold Go.Proofs.YtlokhhjhckiloaaGreat.joinAt
  cases hx : G.L[i]? with
  | none => exact h
  | some x => exact h.set i _ ⟨hT, (h.all x (List.mem_of_getElem? hx)).2⟩
theorem GQ.add (h : GQ k G) (hl : G.L.length < 20) : GQ (k + 1) (addD G) := ⟨by show (G.L ++ _).length ≤ 20; simp; omega, h.ss, h.rb, ⟨h.gn.1, by have := h.gn.2; show G.gn ≤ k + 1; omega⟩, ⟨by have := h.nx.1; show 0 ≤ G.nx + 1; omega, by have := h.nx.2; show G.nx + 1 ≤ k + 1; omega⟩, fun x hx => by
  rcases List.mem_append.1 hx with hx | hx
  · exact h.all x hx
  · have : x = ⟨G.nx, [], 0, false, []⟩ := by simpa using hx
    subst this
    exact ⟨TOk.nil, POk.nil⟩⟩
theorem join_want {m now : Int} {T : List ByteArray} (hE : joinE m T now G = 0) : wantB T = true := by
  unfold joinE at hE
  split at hE
  · rename_i h
    simp only [Bool.and_eq_true] at h
    exact h.2.1
  · cases hE
theorem GQ.join (h : GQ k G) (m now : Int) (T : List ByteArray) (hT0 : ∀ s ∈ T, s.size ≤ 281474976710656) : GQ (k + 2) (joinD m T now G) := by
  unfold joinD
  by_cases hE : joinE m T now G = 0
  · rw [if_pos hE]
    have hT : TOk T := ⟨by
      have := join_want hE
      unfold wantB at this
      simp only [Bool.and_eq_true, decide_eq_true_eq] at this
      omega, hT0⟩
    have h1 : GQ (k + 1) (join1D m G) := by
      unfold join1D
      by_cases hm : m = -1
      · rw [if_pos hm]
        refine h.add ?_
        unfold joinE at hE
        split at hE
        · split at hE
          · cases hE
          · omega
        · cases hE
      · rw [if_neg hm]
        exact h.mono (by omega)
    have h2 : GQ (k + 1) (join2D now (join1D m G)) := by
      unfold join2D
      split
      · exact h1
      · exact h1.begin now
    unfold join3D
    split
    · exact ((h2.joinAt _ T hT now).whole now).mono (by omega)
    · exact h2.mono (by omega)
  · rw [if_neg hE]
    exact h.mono (by omega)
end
theorem dealK_mem {L : List Nat} {s : ByteArray} {n : Nat} {D : Nat → List TX} (hs : s.size ≤ 281474976710656) (hD : ∀ k, ∀ t ∈ D k, t.1.size ≤ 281474976710656) : ∀ j k, ∀ t ∈ dealK L s n D j k, t.1.size ≤ 281474976710656
  | 0, k, t, ht => hD k t ht
  | j + 1, k, t, ht => by
    rw [dealK] at ht
    cases hL : L[j]? with
    | none => rw [hL] at ht; exact dealK_mem hs hD j k t ht
    | some m =>
      rw [hL] at ht
      simp only [updD] at ht
      split at ht
      · rcases List.mem_append.1 ht with ht | ht
        · exact dealK_mem hs hD j _ t ht
        · have h1 := List.mem_of_mem_drop (List.mem_of_mem_take ht)
          obtain ⟨i, _, rfl⟩ := List.mem_map.1 h1
          exact hs
      · exact dealK_mem hs hD j k t ht
theorem rangeD_mem {S : List SX} {T : List TX} (hT : ∀ t ∈ T, t.1.size ≤ 281474976710656) : ∀ k, ∀ t ∈ rangeD S T k, t.1.size ≤ 281474976710656 := by
  unfold rangeD
  suffices h : ∀ (T : List TX) (D : Nat → List TX), (∀ t ∈ T, t.1.size ≤ 281474976710656) → (∀ k, ∀ t ∈ D k, t.1.size ≤ 281474976710656) → ∀ k, ∀ t ∈ T.foldl (stepR S) D k, t.1.size ≤ 281474976710656 from h T _ hT (fun k t ht => by cases ht)
  intro T
  induction T with
  | nil => intro D _ hD; exact hD
  | cons a T ih =>
    intro D hT hD
    rw [List.foldl_cons]
    exact ih _ (fun t ht => hT t (List.mem_cons_of_mem _ ht)) (dealK_mem (hT a (List.mem_cons_self ..)) hD _)
theorem dealP_mem {L : List Nat} {s : ByteArray} {st : (Nat → List TX) × Int} (hs : s.size ≤ 281474976710656) (hD : ∀ k, ∀ t ∈ st.1 k, t.1.size ≤ 281474976710656) : ∀ p k, ∀ t ∈ (dealP L s st p).1 k, t.1.size ≤ 281474976710656
  | 0, k, t, ht => hD k t ht
  | p + 1, k, t, ht => by
    rw [dealP] at ht
    simp only [updD] at ht
    split at ht
    · rcases List.mem_append.1 ht with ht | ht
      · exact dealP_mem hs hD p _ t ht
      · have : t = (s, (p : Int)) := by simpa using ht
        rw [this]; exact hs
    · exact dealP_mem hs hD p k t ht
theorem roundD_mem {S : List SX} {T : List TX} (hT : ∀ t ∈ T, t.1.size ≤ 281474976710656) : ∀ k, ∀ t ∈ (roundD S T).1 k, t.1.size ≤ 281474976710656 := by
  unfold roundD
  suffices h : ∀ (T : List TX) (st : (Nat → List TX) × Int), (∀ t ∈ T, t.1.size ≤ 281474976710656) → (∀ k, ∀ t ∈ st.1 k, t.1.size ≤ 281474976710656) → ∀ k, ∀ t ∈ (T.foldl (stepO S) st).1 k, t.1.size ≤ 281474976710656 from h T _ hT (fun k t ht => by cases ht)
  intro T
  induction T with
  | nil => intro st _ hD; exact hD
  | cons a T ih =>
    intro st hT hD
    rw [List.foldl_cons]
    refine ih _ (fun t ht => hT t (List.mem_cons_of_mem _ ht)) ?_
    unfold stepO
    split
    · exact hD
    · exact dealP_mem (hT a (List.mem_cons_self ..)) hD _
theorem dealF_ok {L : List MD} {T : List TX} {round : Bool} (hE : dealE L T = 0) (hT : ∀ t ∈ T, t.1.size ≤ 281474976710656) (k : Nat) : POk (dealF L T round k) := by
  have hm := (mayT_iff.1 (chk_ok hE).2)
  have h16 : ∀ t ∈ T, t.2 ≤ 16 := fun t ht => (okT_iff.1 (hm.2.1 t ht)).2
  unfold dealF
  split
  · refine ⟨?_, roundD_mem hT k⟩
    have := roundD_len (S := subsD L) h16 T.length (Nat.le_refl _) k
    rw [List.take_length] at this
    have := hm.1
    omega
  · refine ⟨?_, rangeD_mem hT k⟩
    have := rangeD_len (S := subsD L) h16 T.length (Nat.le_refl _) k
    rw [List.take_length] at this
    have := hm.1
    omega
theorem GQ.deal {k : Int} {G : GD} (h : GQ k G) (T : List TX) (round : Bool) (hT : ∀ t ∈ T, t.1.size ≤ 281474976710656) : GQ k (dealD T round G) := by
  unfold dealD
  by_cases hE : dealE G.L T = 0
  · rw [if_pos hE]
    refine ⟨by show (G.L.mapIdx _).length ≤ 20; rw [List.length_mapIdx]; exact h.len, h.ss, h.rb, h.gn, h.nx, fun x hx => ?_⟩
    obtain ⟨i, hi, rfl⟩ := List.mem_mapIdx.1 hx
    exact ⟨(h.all _ (List.getElem_mem hi)).1, dealF_ok hE hT i⟩
  · rw [if_neg hE]; exact h
theorem GQ.sync {k : Int} {G : GD} (h : GQ k G) (m gen : Int) (T : List TX) (round : Bool) (now : Int) (hT : ∀ t ∈ T, t.1.size ≤ 281474976710656) : GQ k (syncD m gen T round now G) := by
  unfold syncD
  split
  · cases posM m G.L with
    | none => exact h
    | some i =>
      show GQ k (sync2D m T round (hearD i now G))
      unfold sync2D
      split
      · split
        · exact (h.hear i now).deal T round hT
        · exact h.hear i now
      · exact h.hear i now
  · exact h
section
variable {G : GD}
theorem GN.enter (ph now : Int) : GN (enterD ph now G) := by
  by_cases h : G.L = []
  · exact .inl (enterD_ph0 _ _ _ h)
  · exact .inr (by rw [enterD_L]; exact h)
theorem GN.begin (now : Int) : GN (beginD now G) := GN.enter _ _
theorem GN.close (now : Int) : GN (closeD now G) := GN.enter _ _
theorem GN.whole (now : Int) : GN (wholeD now G) := by
  unfold wholeD
  split
  · rename_i h
    refine .inr (fun e => ?_)
    rw [e] at h
    cases h
  · exact GN.close now
theorem GN.goOn (now : Int) : GN (goOnD now G) := by
  unfold goOnD
  split
  · exact GN.whole now
  · exact GN.begin now
theorem GN.drop0 (h : GN G) (f : MD → Bool) (hd : decide ((dropD f G).L.length < G.L.length) = false) : GN (dropD f G) := by
  rcases h with h | h
  · exact .inl h
  · refine .inr (fun e => ?_)
    have h1 := of_decide_eq_false hd
    rw [e] at h1
    have := List.length_pos_iff.2 h
    simp at h1
    exact h h1
theorem GN.tick1 (h : GN G) (now : Int) : GN (tick1D now G) := by
  unfold tick1D
  split
  · exact GN.goOn now
  · rename_i hd
    exact h.drop0 _ (by simpa using hd)
theorem GN.tick2 (h : GN G) (now : Int) : GN (tick2D now G) := by
  unfold tick2D
  split
  · exact h
  · split
    · exact GN.close now
    · split
      · exact GN.begin now
      · exact h
theorem GN.tick (h : GN G) (now : Int) : GN (tickD now G) := by
  unfold tickD
  split
  · exact (h.tick1 now).tick2 now
  · exact h
theorem GN.leave (h : GN G) (m now : Int) : GN (leaveD m now G) := by
  unfold leaveD
  split
  · split
    · exact GN.goOn now
    · rename_i hd
      exact h.drop0 _ (by simpa using hd)
  · exact h
theorem GN.hear (h : GN G) (i : Nat) (now : Int) : GN (hearD i now G) := by
  rcases h with h | h
  · exact .inl (by rw [hearD_ph]; exact h)
  · refine .inr (fun e => h ?_)
    have := hearD_len i now G
    rw [e] at this
    exact List.eq_nil_of_length_eq_zero this.symm
theorem GN.beat (h : GN G) (m gen now : Int) : GN (beatD m gen now G) := by
  unfold beatD
  split
  · cases posM m G.L with
    | none => exact h
    | some i => exact h.hear i now
  · exact h
theorem GN.join (h : GN G) (m now : Int) (T : List ByteArray) : GN (joinD m T now G) := by
  unfold joinD
  split
  · unfold join3D
    split
    · exact GN.whole now
    · rename_i hpo
      by_cases hm : m = -1
      · exfalso
        obtain ⟨i, hi⟩ := pos_add G
        unfold joinM join1D at hpo
        rw [if_pos hm, if_pos hm, pos_join2, hi] at hpo
        cases hpo
      · rename_i hE _
        exfalso
        unfold joinM join1D at hpo
        rw [if_neg hm, if_neg hm, pos_join2] at hpo
        unfold joinE at hE
        split at hE
        · rw [hpo] at hE
          cases hE
        · cases hE
  · exact h
theorem GN.deal (h : GN G) (T : List TX) (round : Bool) (hl : G.L ≠ []) : GN (dealD T round G) := by
  unfold dealD
  split
  · refine .inr (fun e => hl ?_)
    have := congrArg List.length e
    simp at this
    exact this
  · exact h
theorem GN.sync (h : GN G) (m gen : Int) (T : List TX) (round : Bool) (now : Int) : GN (syncD m gen T round now G) := by
  unfold syncD
  split
  · cases hp : posM m G.L with
    | none => exact h
    | some i =>
      have hh := h.hear i now
      show GN (sync2D m T round (hearD i now G))
      unfold sync2D
      split
      · rename_i h2
        split
        · refine hh.deal T round ?_
          rcases hh with h0 | h0
          · rw [h2] at h0; cases h0
          · exact h0
        · exact hh
      · exact hh
  · exact h
end
end Go.Proofs.YtlokhhjhckiloaaGreat
