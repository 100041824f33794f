/- coord: who is in a group as members join, and leave one by one. Plain laws. No condition. -/
import Derived.Test.YtlokhhjhckiloaaCoLv
namespace Go.Proofs.Ytlokhhjhckiloaa
open Go.RowKit
set_option linter.unusedVariables false
def nms (G : GD) : List Int := G.L.map MD.n
theorem begin_nms (now : Int) (G : GD) : nms (beginD now G) = nms G := by
  unfold nms beginD
  rw [enterD_L]
  show List.map MD.n (List.map _ G.L) = _
  rw [List.map_map]
  rfl
theorem enter_nx' (ph now : Int) (G : GD) : (enterD ph now G).nx = G.nx := enterD_nx _ _ _
theorem begin_nx (now : Int) (G : GD) : (beginD now G).nx = G.nx := by unfold beginD; rw [enterD_nx]
theorem more_nx (G : GD) : (moreD G).nx = G.nx := by unfold moreD; split <;> rfl
theorem whole_nx (now : Int) (G : GD) : (wholeD now G).nx = G.nx := by
  unfold wholeD
  split
  · rfl
  · unfold closeD
    rw [enterD_nx, more_nx]
    rfl
theorem whole_nms (now : Int) (G : GD) : nms (wholeD now G) = nms G := by unfold nms; rw [whole_L]
/-- Closing: nobody only where nobody is. -/
theorem whole_ph (now : Int) {G : GD} (h : G.ph = 1) : (G.L ≠ [] → (wholeD now G).ph ≠ 0) ∧ (G.L = [] → (wholeD now G).ph = 0) := by
  have hL := whole_L now G
  unfold wholeD at hL ⊢
  split
  · rename_i ha
    refine ⟨fun _ => by rw [h]; decide, fun e => ?_⟩
    rw [e] at ha
    cases ha
  · rename_i ha
    rw [if_neg ha] at hL
    unfold closeD at hL ⊢
    rw [enterD_L] at hL
    refine ⟨fun hne => ?_, fun e => ?_⟩
    · rw [enterD_ph _ _ _ (by rw [hL]; exact hne)]
      decide
    · rw [enterD_ph0 _ _ _ (by rw [hL]; exact e)]
theorem begin_ph2 (now : Int) (G : GD) : (G.L ≠ [] → (beginD now G).ph = 1) ∧ (G.L = [] → (beginD now G).ph = 0) := by
  unfold beginD
  refine ⟨fun h => enterD_ph _ _ _ (by show List.map _ G.L ≠ []; simpa using h), fun h => enterD_ph0 _ _ _ (by show List.map _ G.L = []; simpa using h)⟩
theorem goOn_nms (now : Int) (G : GD) : nms (goOnD now G) = nms G := by
  unfold goOnD
  split
  · exact whole_nms now G
  · exact begin_nms now G
theorem goOn_ph (now : Int) (G : GD) : (G.L ≠ [] → (goOnD now G).ph ≠ 0) ∧ (G.L = [] → (goOnD now G).ph = 0) := by
  unfold goOnD
  split
  · rename_i h
    exact whole_ph now h
  · exact ⟨fun h => by rw [(begin_ph2 now G).1 h]; decide, (begin_ph2 now G).2⟩
theorem joinAt_nms (i : Nat) (T : List ByteArray) (now : Int) (G : GD) : nms (joinAt i T now G) = nms G ∧ (joinAt i T now G).ph = G.ph ∧ (joinAt i T now G).nx = G.nx := by
  unfold joinAt
  cases hx : G.L[i]? with
  | none => exact ⟨rfl, rfl, rfl⟩
  | some x =>
    refine ⟨?_, rfl, rfl⟩
    unfold nms
    show List.map MD.n (G.L.set i _) = _
    rw [List.map_set]
    apply List.ext_getElem?
    intro j
    rw [List.getElem?_set]
    split
    · rename_i e
      subst e
      obtain ⟨hi, _⟩ := List.getElem?_eq_some_iff.1 hx
      rw [if_pos (by simpa using hi), List.getElem?_map, hx]
      rfl
    · rfl
/-- One joins anew. -/
theorem join_new {T : List ByteArray} {now : Int} {G : GD} (h : joinE (-1) T now G = 0) : nms (joinD (-1) T now G) = nms G ++ [G.nx] ∧ (joinD (-1) T now G).nx = G.nx + 1 ∧ (joinD (-1) T now G).ph ≠ 0 := by
  have hadd : nms (addD G) = nms G ++ [G.nx] := by unfold nms addD; simp
  have hane : (addD G).L ≠ [] := by unfold addD; simp
  have h2n : nms (join2D now (addD G)) = nms G ++ [G.nx] := by
    unfold join2D
    split
    · exact hadd
    · rw [begin_nms]; exact hadd
  have h2x : (join2D now (addD G)).nx = G.nx + 1 := by
    unfold join2D
    split
    · rfl
    · rw [begin_nx]; rfl
  have h2p : (join2D now (addD G)).ph = 1 := by
    unfold join2D
    split
    · rename_i e; exact e
    · exact (begin_ph2 now _).1 hane
  have hpos : ∃ i, posM G.nx (join2D now (addD G)).L = some i := by rw [pos_join2]; exact pos_add G
  obtain ⟨i, hi⟩ := hpos
  unfold joinD
  rw [if_pos h]
  show nms (join3D G.nx T now (join2D now (addD G))) = _ ∧ (join3D G.nx T now (join2D now (addD G))).nx = _ ∧ (join3D G.nx T now (join2D now (addD G))).ph ≠ 0
  unfold join3D
  rw [hi]
  show nms (wholeD now (joinAt i T now (join2D now (addD G)))) = _ ∧ (wholeD now (joinAt i T now (join2D now (addD G)))).nx = _ ∧ (wholeD now (joinAt i T now (join2D now (addD G)))).ph ≠ 0
  obtain ⟨j1, j2, j3⟩ := joinAt_nms i T now (join2D now (addD G))
  refine ⟨by rw [whole_nms, j1, h2n], by rw [whole_nx, j3, h2x], (whole_ph now (by rw [j2, h2p])).1 ?_⟩
  intro e
  have h3 : nms (joinAt i T now (join2D now (addD G))) = [] := by unfold nms; rw [e]; rfl
  rw [j1, h2n] at h3
  simp at h3
/-- One leaves. -/
theorem leave_one {m now : Int} {G : GD} (ht : timeB now = true) (hm : m ∈ nms G) : leaveE m now G = 0 ∧ nms (leaveD m now G) = (nms G).filter (fun x => !decide (x = m)) ∧ (nms (leaveD m now G) ≠ [] → (leaveD m now G).ph ≠ 0) ∧ (nms (leaveD m now G) = [] → (leaveD m now G).ph = 0) := by
  have hlt : (dropD (fun x => decide (x.n = m)) G).L.length < G.L.length := by
    obtain ⟨x, hx, hn⟩ := List.mem_map.1 hm
    show (G.L.filter _).length < _
    rw [List.length_filter_lt_length_iff_exists]
    exact ⟨x, hx, by simp [hn]⟩
  have hn2 : nms (dropD (fun x => decide (x.n = m)) G) = (nms G).filter (fun x => !decide (x = m)) := by
    unfold nms dropD
    show List.map MD.n (List.filter _ G.L) = _
    rw [List.filter_map]
    rfl
  unfold leaveE leaveD
  rw [if_pos ht, if_pos (decide_eq_true hlt), if_pos ht, if_pos (decide_eq_true hlt)]
  rw [goOn_nms, hn2]
  refine ⟨rfl, rfl, fun h => (goOn_ph now _).1 (fun e => h ?_), fun h => (goOn_ph now _).2 ?_⟩
  · rw [← hn2]; unfold nms; rw [e]; rfl
  · rw [← hn2] at h
    unfold nms at h
    simpa using h
/-- So many have joined. -/
def AlJ (k : Nat) (g : Option GD) : Prop := (k = 0 ∧ g = none) ∨ ∃ G, g = some G ∧ nms G = (List.range k).map (fun (i : Nat) => (i : Int)) ∧ G.nx = (k : Int) ∧ G.ph ≠ 0 ∧ 1 ≤ k
/-- So many of n have left. -/
def AlL (n i : Nat) (g : Option GD) : Prop := ∃ G, g = some G ∧ nms G = (List.range' i (n - i)).map (fun (i : Nat) => (i : Int)) ∧ (i < n → G.ph ≠ 0) ∧ (n ≤ i → G.ph = 0)
theorem want_nil : wantB [] = true := rfl
theorem join_e0 {G : GD} (h : G.L.length < 20) : joinE (-1) [] 1 G = 0 := by
  unfold joinE
  rw [show timeB 1 = true from rfl, want_nil, if_pos (by decide), if_pos rfl, if_neg (by omega)]
theorem AlJ.join {k : Nat} {g : Option GD} (h : AlJ k g) (hk : k < 20) : joinE (-1) [] 1 (g.getD (newG 100 100)) = 0 ∧ joinM (-1) (g.getD (newG 100 100)) = (k : Int) ∧ AlJ (k + 1) (some (joinD (-1) [] 1 (g.getD (newG 100 100)))) := by
  have key : nms (g.getD (newG 100 100)) = (List.range k).map (fun (i : Nat) => (i : Int)) ∧ (g.getD (newG 100 100)).nx = (k : Int) := by
    rcases h with ⟨rfl, rfl⟩ | ⟨G, rfl, h1, h2, _⟩
    · exact ⟨rfl, rfl⟩
    · exact ⟨h1, h2⟩
  obtain ⟨k1, k2⟩ := key
  have hl : (g.getD (newG 100 100)).L.length < 20 := by
    have := congrArg List.length k1
    unfold nms at this
    simp at this
    omega
  have hE := join_e0 hl
  obtain ⟨j1, j2, j3⟩ := join_new hE
  refine ⟨hE, k2, .inr ⟨_, rfl, ?_, ?_, j3, by omega⟩⟩
  · rw [j1, k1, k2, List.range_succ, List.map_append]; rfl
  · rw [j2, k2]; omega
theorem AlJ.may {k : Nat} {g : Option GD} (h : AlJ k g) : mayCE g (-1) (-1) = if k = 0 then 0 else 11 := by
  unfold mayCE
  rw [if_pos ⟨rfl, rfl⟩]
  rcases h with ⟨rfl, rfl⟩ | ⟨G, rfl, h1, h2, h3, h4⟩
  · rfl
  · show (if G.ph = 0 then (0 : Int) else 11) = _
    rw [if_neg h3, if_neg (by omega)]
theorem AlJ.turn {n : Nat} {g : Option GD} (h : AlJ n g) (hn : 1 ≤ n) : AlL n 0 g := by
  rcases h with ⟨h0, _⟩ | ⟨G, rfl, h1, h2, h3, h4⟩
  · omega
  · exact ⟨G, rfl, by rw [h1, List.range_eq_range', Nat.sub_zero], fun _ => h3, fun h => by omega⟩
theorem AlL.may {n i : Nat} {g : Option GD} (h : AlL n i g) : (i < n → mayCE g (-1) (-1) = 11) ∧ (n ≤ i → mayCE g (-1) (-1) = 0 ∧ (g.getD zG).ph = 0) := by
  obtain ⟨G, rfl, h1, h2, h3⟩ := h
  unfold mayCE
  rw [if_pos ⟨rfl, rfl⟩]
  show (i < n → (if G.ph = 0 then (0 : Int) else 11) = 11) ∧ (n ≤ i → (if G.ph = 0 then (0 : Int) else 11) = 0 ∧ G.ph = 0)
  refine ⟨fun h => by rw [if_neg (h2 h)], fun h => ⟨by rw [if_pos (h3 h)], h3 h⟩⟩
theorem AlL.leave {n i : Nat} {g : Option GD} (h : AlL n i g) (hi : i < n) : leaCE g (i : Int) 2 = 0 ∧ AlL n (i + 1) (g.map (leaveD (i : Int) 2)) := by
  obtain ⟨G, rfl, h1, h2, h3⟩ := h
  obtain ⟨d, hd⟩ : ∃ d, n - i = d + 1 := ⟨n - i - 1, by omega⟩
  rw [hd, List.range'_succ, List.map_cons] at h1
  have hm : (i : Int) ∈ nms G := by rw [h1]; exact List.mem_cons_self
  obtain ⟨l1, l2, l3, l4⟩ := leave_one (now := 2) rfl hm
  have hf : nms (leaveD (i : Int) 2 G) = (List.range' (i + 1) d).map (fun (i : Nat) => (i : Int)) := by
    rw [l2, h1, List.filter_cons]
    simp only [decide_true, Bool.not_true, Bool.false_eq_true, if_false]
    rw [List.filter_eq_self]
    intro x hx
    obtain ⟨j, hj, rfl⟩ := List.mem_map.1 hx
    have := List.mem_range'_1.1 hj
    simp
    omega
  refine ⟨l1, leaveD (i : Int) 2 G, rfl, ?_, fun h => l3 ?_, fun h => l4 ?_⟩
  · rw [hf, show n - (i + 1) = d by omega]
  · rw [hf]
    cases d with
    | zero => omega
    | succ d => rw [List.range'_succ]; simp
  · rw [hf, show d = 0 by omega]
    rfl
end Go.Proofs.Ytlokhhjhckiloaa
