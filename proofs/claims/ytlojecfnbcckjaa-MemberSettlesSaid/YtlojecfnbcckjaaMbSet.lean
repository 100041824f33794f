/- member: MemberSettles: plain laws. No condition. -/
import Derived.Test.YtlojecfnbcckjaaMbLate
namespace Go.Proofs.Ytlojecfnbcckjaa
open Go.RowKit
set_option linter.unusedVariables false
def stG1 (T : List ByteArray) : GD := ⟨2, 1, 1, 101, [⟨0, T, 101, true, []⟩], 100, 100⟩
/-- Several have joined, the first not again. -/
structure StJ (k : Nat) (G : GD) : Prop where
  ph : G.ph = 1
  nx : G.nx = (k : Int)
  L : ∃ x rest, G.L = x :: rest ∧ x.n = 0 ∧ x.j = false ∧ rest.length + 1 = k ∧ ∀ y ∈ rest, y.j = true ∧ y.n < (k : Int) ∧ 0 < y.n
/-- All have joined. -/
structure St2 (k : Nat) (G : GD) : Prop where
  ph : G.ph = 2
  L : ∃ x rest, G.L = x :: rest ∧ x.n = 0 ∧ rest.length + 1 = k
theorem st_e {T : List ByteArray} {G : GD} (hw : wantB T = true) (hl : G.L.length < 20) : joinE (-1) T 1 G = 0 := by
  unfold joinE
  rw [show timeB 1 = true from rfl, hw, if_pos (by decide), if_pos rfl, if_neg (by omega)]
theorem st_no {T : List ByteArray} {G : GD} (hw : wantB T = false) : joinE (-1) T 1 G = 1 := by
  unfold joinE
  rw [hw, if_neg (by simp)]
theorem st1 {T : List ByteArray} (hw : wantB T = true) : joinD (-1) T 1 (newG 100 100) = stG1 T := by
  unfold joinD
  rw [if_pos (st_e hw (by simp [newG]))]
  rfl
theorem st2 {T : List ByteArray} (hw : wantB T = true) : StJ 2 (joinD (-1) T 1 (stG1 T)) := by
  unfold joinD
  rw [if_pos (st_e hw (by simp [stG1]))]
  exact ⟨rfl, rfl, ⟨0, T, 101, false, []⟩, [⟨1, T, 101, true, []⟩], rfl, rfl, rfl, rfl, fun y hy => by
    have : y = ⟨1, T, 101, true, []⟩ := by simpa using hy
    subst this
    exact ⟨rfl, by show (1 : Int) < 2; decide, by show (0 : Int) < 1; decide⟩⟩
theorem findIdx_last {L : List MD} {m : Int} {x : MD} (h : ∀ y ∈ L, y.n ≠ m) (hx : x.n = m) : posM m (L ++ [x]) = some L.length := by
  unfold posM
  rw [List.findIdx?_append, List.findIdx?_eq_none_iff.2 (fun y hy => by simpa using h y hy)]
  simp [hx]
theorem st3 {T : List ByteArray} {G : GD} {k : Nat} (hw : wantB T = true) (h : StJ k G) (hk : k < 20) : StJ (k + 1) (joinD (-1) T 1 G) ∧ joinE (-1) T 1 G = 0 := by
  obtain ⟨x, rest, hL, hx0, hxj, hlen, hr⟩ := h.L
  have hE : joinE (-1) T 1 G = 0 := st_e hw (by rw [hL]; simp; omega)
  refine ⟨?_, hE⟩
  unfold joinD
  rw [if_pos hE]
  have h1 : join1D (-1) G = addD G := rfl
  have h2 : join2D 1 (addD G) = addD G := by unfold join2D; rw [if_pos (show (addD G).ph = 1 from h.ph)]
  have hM : joinM (-1) G = G.nx := rfl
  rw [h1, h2, hM]
  have hpos : posM G.nx (addD G).L = some G.L.length := findIdx_last (fun y hy => by
    rw [hL] at hy
    rcases List.mem_cons.1 hy with rfl | hy
    · rw [hx0, h.nx]; omega
    · have := (hr y hy).2.1; rw [h.nx]; omega) rfl
  unfold join3D
  rw [hpos]
  have hat : (addD G).L[G.L.length]? = some ⟨G.nx, [], 0, false, []⟩ := by simp [addD]
  have hja : joinAt G.L.length T 1 (addD G) = { addD G with L := G.L ++ [⟨G.nx, T, 1 + G.ss, true, []⟩] } := by
    unfold joinAt
    rw [hat]
    have : (addD G).L.set G.L.length ⟨G.nx, T, 1 + G.ss, true, []⟩ = G.L ++ [⟨G.nx, T, 1 + G.ss, true, []⟩] := by
      show (G.L ++ [_]).set _ _ = _
      rw [List.set_append_right _ _ (Nat.le_refl _), Nat.sub_self]
      rfl
    show { addD G with L := (addD G).L.set G.L.length ⟨G.nx, T, 1 + G.ss, true, []⟩ } = _
    rw [this]
  show StJ (k + 1) (wholeD 1 (joinAt G.L.length T 1 (addD G)))
  rw [hja]
  have hwh : wholeD 1 { addD G with L := G.L ++ [⟨G.nx, T, 1 + G.ss, true, []⟩] } = { addD G with L := G.L ++ [⟨G.nx, T, 1 + G.ss, true, []⟩] } := by
    unfold wholeD
    rw [if_pos (by rw [List.any_eq_true]; exact ⟨x, by simp [hL], by simp [hxj]⟩)]
  rw [hwh]
  refine ⟨h.ph, ?_, x, rest ++ [⟨G.nx, T, 1 + G.ss, true, []⟩], ?_, hx0, hxj, ?_, fun y hy => ?_⟩
  · show G.nx + 1 = _; rw [h.nx]; omega
  · show G.L ++ _ = _; rw [hL]; rfl
  · simp; omega
  · rcases List.mem_append.1 hy with hy | hy
    · have := hr y hy
      exact ⟨this.1, by have := this.2.1; omega, this.2.2⟩
    · have : y = ⟨G.nx, T, 1 + G.ss, true, []⟩ := by simpa using hy
      subst this
      exact ⟨rfl, by show G.nx < _; rw [h.nx]; omega, by show 0 < G.nx; rw [h.nx]; omega⟩
theorem pos_head {m : Int} {x : MD} {rest : List MD} (h : x.n = m) : posM m (x :: rest) = some 0 := by
  unfold posM
  simp [List.findIdx?_cons, h]
theorem st4 {T : List ByteArray} {G : GD} {k : Nat} (hw : wantB T = true) (h : StJ k G) : St2 k (joinD 0 T 2 G) := by
  obtain ⟨x, rest, hL, hx0, hxj, hlen, hr⟩ := h.L
  have hp : posM 0 G.L = some 0 := by rw [hL]; exact pos_head hx0
  have hE : joinE 0 T 2 G = 0 := by
    unfold joinE
    rw [show timeB 2 = true from rfl, hw, if_pos (by decide), if_neg (by decide), hp]
  unfold joinD
  rw [if_pos hE]
  have h1 : join1D 0 G = G := rfl
  have h2 : join2D 2 G = G := by unfold join2D; rw [if_pos h.ph]
  have hM : joinM 0 G = 0 := rfl
  rw [h1, h2, hM]
  unfold join3D
  rw [hp]
  have hja : joinAt 0 T 2 G = { G with L := { x with T := T, j := true, u := 2 + G.ss } :: rest } := by
    unfold joinAt
    rw [hL]
    rfl
  show St2 k (wholeD 2 (joinAt 0 T 2 G))
  rw [hja]
  have hwh : wholeD 2 { G with L := { x with T := T, j := true, u := 2 + G.ss } :: rest } = closeD 2 { G with L := { x with T := T, j := true, u := 2 + G.ss } :: rest } := by
    unfold wholeD
    rw [if_neg (by
      rw [List.any_eq_true]
      rintro ⟨y, hy, hj⟩
      rcases List.mem_cons.1 hy with rfl | hy
      · cases hj
      · rw [(hr y hy).1] at hj; cases hj)]
  rw [hwh]
  have hd : dropD (fun x => !x.j) { G with L := { x with T := T, j := true, u := 2 + G.ss } :: rest } = { G with L := { x with T := T, j := true, u := 2 + G.ss } :: rest } := drop_keep (fun y hy => by
    rcases List.mem_cons.1 hy with rfl | hy
    · rfl
    · rw [(hr y hy).1]; rfl)
  unfold closeD
  rw [hd]
  have hm : (moreD { G with L := { x with T := T, j := true, u := 2 + G.ss } :: rest }).L ≠ [] := by rw [moreD_L]; simp
  refine ⟨enterD_ph _ _ _ hm, { x with T := T, j := true, u := 2 + G.ss }, rest, ?_, hx0, hlen⟩
  rw [enterD_L, moreD_L]
theorem st5 (T : List ByteArray) : St2 1 (stG1 T) := ⟨rfl, ⟨0, T, 101, true, []⟩, [], rfl, rfl, rfl⟩
theorem st6 {G : GD} {k : Nat} (h : St2 k G) (T : List TX) (round : Bool) : syncE 0 G.gn T 3 G = 1 ∨ (syncE 0 G.gn T 3 G = 0 ∧ (syncD 0 G.gn T round 3 G).ph = 3) := by
  obtain ⟨x, rest, hL, hx0, hlen⟩ := h.L
  have hp : posM 0 G.L = some 0 := by rw [hL]; exact pos_head hx0
  have hn : nameE 0 G.gn G = 0 := by unfold nameE; rw [hp, if_pos rfl]
  have hK : knowE 0 G.gn G = 0 := by unfold knowE; rw [if_pos hn, if_neg (by rw [h.ph]; decide)]
  have hh : hearD 0 3 G = { G with L := { x with u := 3 + G.ss } :: rest } := by
    unfold hearD
    rw [hL]
    rfl
  have hE : syncE 0 G.gn T 3 G = dealE (hearD 0 3 G).L T := by
    unfold syncE
    rw [if_pos (show timeB 3 = true from rfl), if_pos hK, hp]
    show sync2E 0 T (hearD 0 3 G) = _
    unfold sync2E
    rw [if_pos (by rw [hearD_ph]; exact h.ph), if_pos (by rw [hh]; exact hx0.symm)]
  have hD : syncD 0 G.gn T round 3 G = dealD T round (hearD 0 3 G) := by
    unfold syncD
    rw [if_pos ⟨rfl, hK⟩, hp]
    show sync2D 0 T round (hearD 0 3 G) = _
    unfold sync2D
    rw [if_pos (by rw [hearD_ph]; exact h.ph), if_pos (by rw [hh]; exact hx0.symm)]
  rw [hE, hD]
  rcases chk_cases (subsD (hearD 0 3 G).L) T with he | he
  · right
    refine ⟨he, ?_⟩
    unfold dealD
    rw [if_pos (show dealE (hearD 0 3 G).L T = 0 from he)]
  · left; exact he
end Go.Proofs.Ytlojecfnbcckjaa
