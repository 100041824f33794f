/- member: in Stable all that the leader named is shared out. Plain laws. No condition. -/
import Derived.Test.YthbcklamhoekmaaMbWm
import Derived.Test.YthbcklamhoekmaaMbPs
namespace Go.Proofs.Ythbcklamhoekmaa
open Go.RowKit
set_option linter.unusedVariables false
theorem sumTo_mono (f : Nat → Nat) {a : Nat} : ∀ {b : Nat}, a ≤ b → sumTo f a ≤ sumTo f b
  | 0, h => by rw [Nat.le_zero.1 h]; exact Nat.le_refl _
  | b + 1, h => by
    by_cases e : a = b + 1
    · subst e; exact Nat.le_refl _
    · rw [sumTo]
      have := sumTo_mono f (a := a) (b := b) (by omega)
      omega
theorem cnt_le (x : TX) (L : List TX) (j : Nat) : cntP x (L.take j) ≤ cntP x L := by
  unfold cntP
  exact List.Sublist.countP_le (List.take_sublist j L)
/-- What a member wants and has. -/
def tpD (x : MD) : List ByteArray × List TX := (x.T, x.P)
def pAt (Z : List (List ByteArray × List TX)) (k : Nat) : List TX := match Z[k]? with | some z => z.2 | none => []
/-- Stable comes from Stable, with the same shares. -/
def K3 (G G' : GD) : Prop := G'.ph = 3 → G.ph = 3 ∧ G'.L.map tpD = G.L.map tpD
/-- All is shared out, to those that want it. -/
structure ShD (T : List TX) (Z : List (List ByteArray × List TX)) : Prop where
  one : ∀ (i : Nat) t, T[i]? = some t → ∀ p : Nat, p < t.2.toNat → sumTo (fun k => cntP (t.1, (p : Int)) (pAt Z k)) Z.length = if Z.any (fun z => hasB z.1 t.1) then 1 else 0
  has : ∀ (k : Nat) (z : List ByteArray × List TX), Z[k]? = some z → ∀ y ∈ z.2, hasB z.1 y.1 = true
section
variable {G G' G'' : GD}
theorem K3.refl (G : GD) : K3 G G := fun h => ⟨h, rfl⟩
theorem K3.trans (h : K3 G G') (k : K3 G' G'') : K3 G G'' := fun e => by
  obtain ⟨a, b⟩ := k e
  obtain ⟨c, d⟩ := h a
  exact ⟨c, b.trans d⟩
theorem K3.never (h : G'.ph ≠ 3) : K3 G G' := fun e => absurd e h
theorem enter_ph (ph now : Int) (G : GD) : (enterD ph now G).ph = 0 ∨ (enterD ph now G).ph = ph := by
  unfold enterD
  split
  · exact .inl rfl
  · exact .inr rfl
theorem begin_ph (now : Int) (G : GD) : (beginD now G).ph = 0 ∨ (beginD now G).ph = 1 := enter_ph _ _ _
theorem close_ph (now : Int) (G : GD) : (closeD now G).ph = 0 ∨ (closeD now G).ph = 2 := enter_ph _ _ _
theorem begin_ne (now : Int) (G : GD) : (beginD now G).ph ≠ 3 := by rcases begin_ph now G with h | h <;> rw [h] <;> decide
theorem close_ne (now : Int) (G : GD) : (closeD now G).ph ≠ 3 := by rcases close_ph now G with h | h <;> rw [h] <;> decide
theorem whole_ne (now : Int) {G : GD} (h : G.ph ≠ 3) : (wholeD now G).ph ≠ 3 := by
  unfold wholeD
  split
  · exact h
  · exact close_ne now G
theorem goOn_ne (now : Int) (G : GD) : (goOnD now G).ph ≠ 3 := by
  unfold goOnD
  split
  · rename_i h
    exact whole_ne now (by rw [h]; decide)
  · exact begin_ne now G
theorem drop_same {f : MD → Bool} (h : ¬ (dropD f G).L.length < G.L.length) : dropD f G = G := by
  unfold dropD at h ⊢
  have h2 : (G.L.filter fun x => !f x).length = G.L.length := by
    have := List.length_filter_le (fun x => !f x) G.L
    have h3 : ¬ (G.L.filter fun x => !f x).length < G.L.length := h
    omega
  rw [List.filter_eq_self.2 (List.length_filter_eq_length_iff.1 h2)]
theorem K3.drop (f : MD → Bool) (now : Int) : K3 G (if decide ((dropD f G).L.length < G.L.length) = true then goOnD now (dropD f G) else dropD f G) := by
  split
  · exact K3.never (goOn_ne _ _)
  · rename_i h
    rw [drop_same (by simpa using h)]
    exact K3.refl G
theorem K3.tick (now : Int) : K3 G (tickD now G) := by
  unfold tickD
  split
  · have h1 : K3 G (tick1D now G) := K3.drop (fun x => decide (x.u ≤ now)) now
    refine h1.trans ?_
    generalize tick1D now G = G1
    unfold tick2D
    split
    · exact K3.refl _
    · split
      · exact K3.never (close_ne _ _)
      · split
        · exact K3.never (begin_ne _ _)
        · exact K3.refl _
  · exact K3.refl G
theorem K3.leave (m now : Int) : K3 G (leaveD m now G) := by
  unfold leaveD
  split
  · exact K3.drop (fun x => decide (x.n = m)) now
  · exact K3.refl G
theorem hear_tp (i : Nat) (now : Int) (G : GD) : (hearD i now G).L.map tpD = G.L.map tpD := by
  unfold hearD
  cases hx : G.L[i]? with
  | none => rfl
  | some x =>
    show (G.L.set i { x with u := now + G.ss }).map tpD = _
    rw [List.map_set]
    obtain ⟨hi, hx'⟩ := List.getElem?_eq_some_iff.1 hx
    apply List.ext_getElem?
    intro j
    rw [List.getElem?_set]
    split
    · rename_i e
      subst e
      rw [if_pos (by simpa using hi), List.getElem?_map, hx]
      rfl
    · rfl
theorem K3.hear (i : Nat) (now : Int) : K3 G (hearD i now G) := fun h => ⟨by rwa [hearD_ph] at h, hear_tp i now G⟩
theorem K3.beat (m gen now : Int) : K3 G (beatD m gen now G) := by
  unfold beatD
  split
  · cases posM m G.L with
    | none => exact K3.refl G
    | some i => exact K3.hear i now
  · exact K3.refl G
theorem K3.join (m : Int) (T : List ByteArray) (now : Int) : K3 G (joinD m T now G) := by
  unfold joinD
  split
  · refine K3.never ?_
    have h2 : (join2D now (join1D m G)).ph ≠ 3 := by
      unfold join2D
      split
      · rename_i h
        rw [h]; decide
      · exact begin_ne _ _
    unfold join3D
    split
    · refine whole_ne now ?_
      unfold Go.Proofs.Ythbcklamhoekmaa.joinAt
      split
      · exact h2
      · exact h2
    · exact h2
  · exact K3.refl G
/-- What is dealt is shared out. -/
theorem deal_sh {T : List TX} {round : Bool} {G : GD} (h : dealE G.L T = 0) : ShD T ((dealD T round G).L.map tpD) := by
  have hD : Dealt (subsD G.L) T (dealF G.L T round) := by
    unfold dealF
    split
    · exact round_dealt _ _
    · exact range_dealt _ _
  obtain ⟨hmS, hmT⟩ := chk_ok (show chkE (subsD G.L) T = 0 from h)
  obtain ⟨hl2, hokT, hris⟩ := mayT_iff.1 hmT
  have hSl : (subsD G.L).length = G.L.length := by unfold subsD; rw [List.length_map]
  have hSat : ∀ (k : Nat) x, G.L[k]? = some x → (subsD G.L)[k]? = some (x.n, x.T, none, 0) := fun k x hx => by unfold subsD; rw [List.getElem?_map, hx]; rfl
  unfold dealD
  rw [if_pos h]
  show ShD T ((G.L.mapIdx fun j x => { x with P := dealF G.L T round j }).map tpD)
  generalize dealF G.L T round = D at *
  have hZ : ∀ (k : Nat) x, G.L[k]? = some x → ((G.L.mapIdx fun j x => { x with P := D j }).map tpD)[k]? = some (x.T, D k) := fun k x hx => by
    rw [List.getElem?_map, List.getElem?_mapIdx, hx]; rfl
  have hZl : ((G.L.mapIdx fun j x => { x with P := D j }).map tpD).length = G.L.length := by simp
  have hpA : ∀ k, k < G.L.length → pAt ((G.L.mapIdx fun j x => { x with P := D j }).map tpD) k = D k := fun k hk => by
    unfold pAt
    rw [hZ k _ (List.getElem?_eq_getElem hk)]
  have hany : ∀ s, ((G.L.mapIdx fun j x => { x with P := D j }).map tpD).any (fun z => hasB z.1 s) = G.L.any fun x => hasB x.T s := fun s => by
    rw [Bool.eq_iff_iff, List.any_eq_true, List.any_eq_true]
    constructor
    · rintro ⟨z, hz, he⟩
      obtain ⟨k, hk⟩ := List.getElem?_of_mem hz
      have hkl := (List.getElem?_eq_some_iff.1 hk).1
      rw [hZl] at hkl
      rw [hZ k _ (List.getElem?_eq_getElem hkl)] at hk
      injection hk with hk
      rw [← hk] at he
      exact ⟨_, List.getElem_mem hkl, he⟩
    · rintro ⟨x, hx, he⟩
      obtain ⟨k, hk⟩ := List.getElem?_of_mem hx
      exact ⟨_, List.mem_of_getElem? (hZ k x hk), he⟩
  refine ⟨fun i t hi p hp => ?_, fun k z hz y hy => ?_⟩
  · rw [hZl, sumTo_congr (g := fun k => cntP (t.1, (p : Int)) (pAt ((G.L.mapIdx fun j x => { x with P := D j }).map tpD) k)) (f := fun k => cntP (t.1, (p : Int)) (D k)) _ (fun k hk => by show cntP _ _ = cntP _ _; rw [hpA k hk]), hany]
    have h1 := hD.cnt (t.1, (p : Int))
    rw [hSl, ct_one hris hi hp] at h1
    rw [h1]
    by_cases h0 : (takersG (subsD G.L) t.1 (subsD G.L).length).length = 0
    · rw [if_pos h0]
      have : (G.L.any fun x => hasB x.T t.1) = false := by
        rw [Bool.eq_false_iff]
        intro ht
        obtain ⟨x, hx, he⟩ := List.any_eq_true.1 ht
        obtain ⟨k, hk⟩ := List.getElem?_of_mem hx
        have hkl := (List.getElem?_eq_some_iff.1 hk).1
        have := takersG_mem (S := subsD G.L) (s := t.1) (k := (subsD G.L).length) (i := k) |>.2 ⟨by omega, _, hSat k x hk, he⟩
        rw [List.length_eq_zero_iff.1 h0] at this
        cases this
      rw [this]; rfl
    · rw [if_neg h0]
      have : (G.L.any fun x => hasB x.T t.1) = true := by
        rw [List.any_eq_true]
        cases hL : takersG (subsD G.L) t.1 (subsD G.L).length with
        | nil => rw [hL] at h0; exact absurd rfl h0
        | cons i l =>
          obtain ⟨hi2, x, hx, he⟩ := takersG_mem.1 (show i ∈ takersG (subsD G.L) t.1 (subsD G.L).length by rw [hL]; exact List.mem_cons_self)
          rw [hSl] at hi2
          rw [hSat i _ (List.getElem?_eq_getElem hi2)] at hx
          injection hx with hx
          rw [← hx] at he
          exact ⟨_, List.getElem_mem hi2, he⟩
      rw [this]; rfl
  · have hkl := (List.getElem?_eq_some_iff.1 hz).1
    rw [hZl] at hkl
    rw [hZ k _ (List.getElem?_eq_getElem hkl)] at hz
    injection hz with hz
    rw [← hz] at hy ⊢
    obtain ⟨_, x, hx, he⟩ := takersG_mem.1 (hD.mem k y hy)
    rw [hSat k _ (List.getElem?_eq_getElem hkl)] at hx
    injection hx with hx
    rw [← hx] at he
    exact he
/-- Sync: Stable comes from Stable, or all is shared out. -/
theorem sync_sh (m gen : Int) (T : List TX) (round : Bool) (now : Int) (G : GD) : K3 G (syncD m gen T round now G) ∨ (G.ph = 2 ∧ ShD T ((syncD m gen T round now G).L.map tpD)) := by
  unfold syncD
  split
  · cases posM m G.L with
    | none => exact .inl (K3.refl G)
    | some i =>
      show K3 G (sync2D m T round (hearD i now G)) ∨ (_ ∧ ShD T ((sync2D m T round (hearD i now G)).L.map tpD))
      unfold sync2D
      split
      · rename_i h2
        rw [hearD_ph] at h2
        split
        · by_cases hE : dealE (hearD i now G).L T = 0
          · exact .inr ⟨h2, deal_sh hE⟩
          · left
            unfold dealD
            rw [if_neg hE]
            exact K3.hear i now
        · exact .inl (K3.hear i now)
      · exact .inl (K3.hear i now)
  · exact .inl (K3.refl G)
end
/-- A step keeps it. -/
theorem step_sh {x : OM} {gn : Int} {G : GD} {T : List TX} (h : G.ph = 3 → ShD T (G.L.map tpD)) (h3 : (stepG x gn G).ph = 3) : ShD (if G.ph = 3 then T else x.P) ((stepG x gn G).L.map tpD) := by
  have key : K3 G (stepG x gn G) ∨ (G.ph = 2 ∧ ShD x.P ((stepG x gn G).L.map tpD)) := by
    unfold stepG
    split
    · exact .inl (K3.join _ _ _)
    · split
      · exact sync_sh _ _ _ _ _ _
      · split
        · exact .inl (K3.beat _ _ _)
        · split
          · exact .inl (K3.leave _ _)
          · split
            · exact .inl (K3.tick _)
            · exact .inl (K3.refl G)
  rcases key with k | ⟨k1, k2⟩
  · obtain ⟨a, b⟩ := k h3
    rw [if_pos a, b]
    exact h a
  · rw [if_neg (by rw [k1]; decide)]
    exact k2
end Go.Proofs.Ythbcklamhoekmaa
