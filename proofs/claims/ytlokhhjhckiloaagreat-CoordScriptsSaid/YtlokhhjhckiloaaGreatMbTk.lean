/- member: what changes keep; Tick, by a contract. No condition but that numbers are small. -/
import Derived.Test.YtlokhhjhckiloaaGreatMbLv
namespace Go.Proofs.YtlokhhjhckiloaaGreat
open Go.RowKit
set_option linter.unusedVariables false
theorem below_drewN {B : Nat} {a w : World} (h : Below B a w) (n : Nat) : Below B a (w.drewN n) := ⟨h.os, h.tape, h.output, h.size, h.block⟩
section
variable (ph now : Int) (G : GD)
theorem enterD_L : (enterD ph now G).L = G.L := by unfold enterD; split <;> rfl
theorem enterD_ss : (enterD ph now G).ss = G.ss := by unfold enterD; split <;> rfl
theorem enterD_rb : (enterD ph now G).rb = G.rb := by unfold enterD; split <;> rfl
theorem enterD_gn : (enterD ph now G).gn = G.gn := by unfold enterD; split <;> rfl
theorem enterD_nx : (enterD ph now G).nx = G.nx := by unfold enterD; split <;> rfl
theorem enterD_ph (h : G.L ≠ []) : (enterD ph now G).ph = ph := by unfold enterD; rw [if_neg h]
theorem enterD_ph0 (h : G.L = []) : (enterD ph now G).ph = 0 := by unfold enterD; rw [if_pos h]
end
theorem moreD_L (G : GD) : (moreD G).L = G.L := by unfold moreD; split <;> rfl
theorem moreD_gn (G : GD) : (moreD G).gn = G.gn ∨ (moreD G).gn = G.gn + 1 := by
  unfold moreD
  split
  · exact .inl rfl
  · exact .inr rfl
theorem GBd.enter {G : GD} (h : GBd G) (ph now : Int) : GBd (enterD ph now G) := ⟨by rw [enterD_L]; exact h.len, by rw [enterD_ss]; exact h.ss, by rw [enterD_rb]; exact h.rb⟩
theorem GBd.begin {G : GD} (h : GBd G) (now : Int) : GBd (beginD now G) := by
  unfold beginD
  have h2 : GBd { G with L := G.L.map fun x => { x with j := false, P := [] } } := ⟨by show (G.L.map _).length ≤ 100000; rw [List.length_map]; exact h.len, h.ss, h.rb⟩
  exact h2.enter _ _
theorem GBd.close {G : GD} (h : GBd G) (now : Int) : GBd (closeD now G) := (h.drop _).more.enter _ _
theorem GBd.whole {G : GD} (h : GBd G) (now : Int) : GBd (wholeD now G) := by
  unfold wholeD
  split
  · exact h
  · exact h.close now
theorem GBd.goOn {G : GD} (h : GBd G) (now : Int) : GBd (goOnD now G) := by
  unfold goOnD
  split
  · exact h.whole now
  · exact h.begin now
theorem closeD_gn (now : Int) (G : GD) : (closeD now G).gn = G.gn ∨ (closeD now G).gn = G.gn + 1 := by
  unfold closeD
  rw [enterD_gn]
  exact moreD_gn _
theorem beginD_gn (now : Int) (G : GD) : (beginD now G).gn = G.gn := by unfold beginD; rw [enterD_gn]
theorem wholeD_gn (now : Int) (G : GD) : (wholeD now G).gn = G.gn ∨ (wholeD now G).gn = G.gn + 1 := by
  unfold wholeD
  split
  · exact .inl rfl
  · exact closeD_gn now G
theorem goOnD_gn (now : Int) (G : GD) : (goOnD now G).gn = G.gn ∨ (goOnD now G).gn = G.gn + 1 := by
  unfold goOnD
  split
  · exact wholeD_gn now G
  · exact .inl (beginD_gn now G)
/-- Tick: those that were not heard are gone. -/
def tick1D (now : Int) (G : GD) : GD := if decide ((dropD (fun x => decide (x.u ≤ now)) G).L.length < G.L.length) = true then goOnD now (dropD (fun x => decide (x.u ≤ now)) G) else dropD (fun x => decide (x.u ≤ now)) G
def leadM (G : GD) : Int := match G.L with | x :: _ => x.n | [] => 0
/-- Tick: a phase that has lasted too long. -/
def tick2D (now : Int) (G : GD) : GD := if now < G.un then G else if G.ph = 1 then closeD now G else if G.ph = 2 then beginD now (dropD (fun x => decide (x.n = leadM G)) G) else G
def tickD (now : Int) (G : GD) : GD := if timeB now = true then tick2D now (tick1D now G) else G
theorem tick1D_bd {G : GD} (h : GBd G) (now : Int) : GBd (tick1D now G) := by
  unfold tick1D
  split
  · exact (h.drop _).goOn now
  · exact h.drop _
theorem tick1D_gn (now : Int) (G : GD) : (tick1D now G).gn = G.gn ∨ (tick1D now G).gn = G.gn + 1 := by
  unfold tick1D
  split
  · exact goOnD_gn now _
  · exact .inl rfl
theorem tick_nil (now : Int) (W : World) : Calls Tryz.prog 47 #[.pointer none, .int .i64 now] W (Good W (.tuple #[])) := by
  have HB := Lib.hid ((Below.refl W.heap.size W).alloc (Nat.le_refl _) (.cells #[.int .i64 now] 3))
  have ct := fun w => takes_nil now w
  go_enter Tryz.func47, Tryz.ntmps47
  go_wp2_with fail
  with_reducible refine (ct _).mono ?_
  rintro e w1 ⟨rfl, hw⟩
  subst hw
  go_wp2_with fail
  go_end0
  exact ⟨rfl, HB.out⟩
/-- Behind the first of Tick's halves. -/
structure TkS (W0 W : World) (B p : Nat) (v0 : Value) (nb : Nat) (now : Int) (G : GD) (v : Value) (R : List MV) (w : World) : Prop where
  is : GrIs w B p v R G
  off : Off (GrS p v0) W w
  val : ∀ k, v.ownBlock = some k → v0.ownBlock = some k ∨ W.heap.size ≤ k
  box : Box w nb 3 #[.int .i64 now]
set_option maxHeartbeats 8000000 in
set_option maxRecDepth 100000 in
theorem tick_c (B p : Nat) (v : Value) (R : List MV) (G : GD) (now : Int) (W : World) (h : GrIs W B p v R G) (hG : GBd G) (hgn : 0 ≤ G.gn ∧ G.gn ≤ 999999) (hL2 : (tick1D now G).ph = 2 → (tick1D now G).L ≠ []) :
    Calls Tryz.prog 47 #[.pointer (some ⟨p, 0, none⟩), .int .i64 now] W (Wr B p v W (tickD now G) (.tuple #[])) := by
  have ct := fun w => takes_c p now w
  have hbx := Box.new W 3 #[.int .i64 now]
  have hB1 : Below W.heap.size W (W.alloc (.cells #[.int .i64 now] 3)) := (Below.refl _ _).alloc (Nat.le_refl _) _
  have h1 := h.later hB1
  have x0 := (hbx.cell 0).trans (show _ = some (Value.int .i64 now) from rfl)
  have hnS : ¬ GrS p v W.heap.size := fun hs => by
    rcases hs with e | e
    · have := h.box.lt; omega
    · have := (own_blk h.row e).2; omega
  have cd := drop_c 80 #[.pointer (some ⟨W.heap.size, 0, none⟩)] (fun x => decide (x.u ≤ now)) (fun _ _ => rfl) B p v R G _ h1 hG (GrS p v) (tick1_p W.heap.size now _ _ ((hbx.cell 0).trans rfl) hbx.lt hnS) (fun k e => .inr e)
  have HI := Lib.hid h
  have HB := Lib.hid hB1
  have HX := Lib.hid hbx
  have HN := Lib.hid hnS
  unfold tickD
  cases ht : timeB now with
  | false =>
    rw [ht] at ct
    rw [if_neg (by decide)]
    clear h hG ht h1 cd hbx hB1 hL2 hgn hnS
    go_enter Tryz.func47, Tryz.ntmps47
    go_wp2_with fail
    with_reducible refine (ct _).mono ?_
    rintro e w1 ⟨rfl, hw⟩
    subst hw
    go_wp2_with fail
    go_end0
    exact Wr.mk (HI.out.later HB.out) (Off.of_below _ HB.out) (fun k hk => .inl hk)
  | true =>
    rw [ht] at ct
    rw [if_pos rfl]
    have hn := time_bd ht
    have hG2 := tick1D_bd hG now
    have hgn2 : 0 ≤ (tick1D now G).gn ∧ (tick1D now G).gn ≤ 1000000 := by rcases tick1D_gn now G with e | e <;> rw [e] <;> omega
    have hGd := hG.drop (fun x => decide (x.u ≤ now))
    have hgn' : 0 ≤ (dropD (fun x => decide (x.u ≤ now)) G).gn ∧ (dropD (fun x => decide (x.u ≤ now)) G).gn ≤ 1000000 := ⟨hgn.1, by have := hgn.2; show G.gn ≤ 1000000; omega⟩
    have cg := fun v R w (hh : GrIs w B p v R (dropD (fun x => decide (x.u ≤ now)) G)) => goOn_c B p v R (dropD (fun x => decide (x.u ≤ now)) G) now w hh hGd hn hgn'
    obtain ⟨G2, hG2e⟩ : ∃ G2, tick1D now G = G2 := ⟨_, rfl⟩
    have HE := Lib.hid hG2e
    rw [hG2e] at hG2 hgn2 hL2 ⊢
    have cc := fun v R w (hh : GrIs w B p v R G2) => close_c B p v R G2 now w hh hG2 hn hgn2
    clear h hG ht h1 hbx hB1 hG2e hgn hnS hGd hgn'
    cases hd : decide ((dropD (fun x => decide (x.u ≤ now)) G).L.length < G.L.length) with
    | false =>
      rw [hd] at cd
      have HQ : Hid (dropD (fun x => decide (x.u ≤ now)) G = G2) := Lib.hid (by have := HE.out; unfold tick1D at this; rw [hd] at this; first | rwa [if_pos rfl] at this | rwa [if_neg (by decide)] at this)
      clear hd HE
      go_enter Tryz.func47, Tryz.ntmps47
      go_wp2_with fail
      with_reducible refine (ct _).mono ?_
      rintro e w1 ⟨rfl, hw⟩
      subst hw
      go_wp2_with fail
      with_reducible refine cd.mono ?_
      rintro e w2 ⟨rfl, v2, R2, h2, o2, hv2⟩
      rw [HQ.out] at h2
      have T2 : Hid (TkS W (W.alloc (.cells #[.int .i64 now] 3)) B p v W.heap.size now G2 v2 R2 w2) := Lib.hid ⟨h2, o2, hv2, HX.out.off o2 HN.out⟩
      clear h2 o2 hv2 cg x0 cd ct
      obtain ⟨b0, b1, b2, b3, b4, b5, b6, bl, _⟩ := gr7 T2.out.is.box
      have x0 := (T2.out.box.cell 0).trans (show _ = some (Value.int .i64 now) from rfl)
      by_cases hu : now < G2.un
      · have ht2 : Hid (tick2D now G2 = G2) := Lib.hid (by unfold tick2D; rw [if_pos hu])
        clear cc hL2
        go_wp2_with fail
        go_quiet (fail)
        go_wp2_with fail
        go_end0
        rw [ht2.out]
        exact Wr.later (w := W.alloc (.cells #[.int .i64 now] 3)) ⟨rfl, v2, R2, T2.out.is.later (below_drewN (Below.refl _ _) _), T2.out.off.drewN _, T2.out.val⟩ HB.out
      by_cases h1 : G2.ph = 1
      · have ht2 : Hid (tick2D now G2 = closeD now G2) := Lib.hid (by unfold tick2D; rw [if_neg hu, if_pos h1])
        have h1' : (G2.ph == 1) = true := by rw [h1]; rfl
        clear hL2 h1
        go_wp2_with fail
        go_quiet (fail)
        generalize hwa : w2.drewN nq = wa at *
        have T3 : Hid (TkS W (W.alloc (.cells #[.int .i64 now] 3)) B p v W.heap.size now G2 v2 R2 wa) := Lib.hid (by rw [← hwa]; exact ⟨T2.out.is.later (below_drewN (Below.refl _ _) _), T2.out.off.drewN _, T2.out.val, T2.out.box.drewN _⟩)
        have ccx := cc _ _ _ T3.out.is
        obtain ⟨q0, q1, q2, q3, q4, q5, q6, ql, _⟩ := gr7 T3.out.is.box
        have z0 := (T3.out.box.cell 0).trans (show _ = some (Value.int .i64 now) from rfl)
        clear hwa b0 b1 b2 b3 b4 b5 b6 bl x0 T2 cc
        go_wp2_with fail
        with_reducible refine ccx.mono ?_
        rintro e w5 ⟨rfl, v5, R5, h5, o5, hv5⟩
        go_wp2_with fail
        go_end0
        rw [ht2.out]
        exact Wr.later (w := W.alloc (.cells #[.int .i64 now] 3)) ⟨rfl, v5, R5, h5, T3.out.off.two o5 T3.out.val, own_two2 T3.out.off.size T3.out.val hv5⟩ HB.out
      have h1' : (G2.ph == 1) = false := beq_eq_false_iff_ne.2 h1
      by_cases h2 : G2.ph = 2
      · have ht2 : Hid (tick2D now G2 = beginD now (dropD (fun x => decide (x.n = leadM G2)) G2)) := Lib.hid (by unfold tick2D; rw [if_neg hu, if_neg h1, if_pos h2])
        have h2' : (G2.ph == 2) = true := by rw [h2]; rfl
        have hne := hL2 h2
        have hR0 : 0 < R2.length := by rw [T2.out.is.len]; exact List.length_pos_iff.2 hne
        have HR0 := Lib.hid hR0
        have hR0' : (0 : Int) < (R2.length : Int) := by omega
        have HLD : Hid (∃ x, R2[0]? = some x ∧ x.d.n = leadM G2) := Lib.hid (by
          have ha := T2.out.is.abs
          cases hRR : R2 with
          | nil => rw [hRR] at hR0; exact absurd hR0 (Nat.lt_irrefl _)
          | cons y RS =>
            rw [hRR] at ha
            refine ⟨y, rfl, ?_⟩
            unfold leadM
            rw [← ha]
            rfl)
        clear hL2 h1 h2 cc hne hR0
        go_wp2_with fail
        go_quiet (fail)
        generalize hwa : w2.drewN nq = wa at *
        have T3 : Hid (TkS W (W.alloc (.cells #[.int .i64 now] 3)) B p v W.heap.size now G2 v2 R2 wa) := Lib.hid (by rw [← hwa]; exact ⟨T2.out.is.later (below_drewN (Below.refl _ _) _), T2.out.off.drewN _, T2.out.val, T2.out.box.drewN _⟩)
        obtain ⟨q0, q1, q2, q3, q4, q5, q6, ql, _⟩ := gr7 T3.out.is.box
        have z0 := (T3.out.box.cell 0).trans (show _ = some (Value.int .i64 now) from rfl)
        obtain ⟨y, hy, hyn⟩ := HLD.out
        obtain ⟨g, c, ev, hgl, hBg, hgp, r0, r1, r2, r3, r4, hfz⟩ := T3.out.is.at_ hy
        rw [hyn, Nat.zero_mul] at r0
        subst ev
        have hA : Below wa.heap.size wa (wa.alloc (.cells #[.int .i64 (leadM G2)] 3)) := (Below.refl _ _).alloc (Nat.le_refl _) _
        have hbx4 := Box.new wa 3 #[.int .i64 (leadM G2)]
        have hnS4 : ¬ GrS p (.slice (some ⟨g, 0, none⟩) R2.length c) wa.heap.size := fun hs => by
          rcases hs with e | e
          · have := T3.out.is.box.lt; omega
          · have := (own_blk T3.out.is.row e).2; omega
        have cd4 := drop_c 83 #[.pointer (some ⟨wa.heap.size, 0, none⟩)] (fun x => decide (x.n = leadM G2)) (fun _ _ => rfl) B p _ R2 G2 _ (T3.out.is.later hA) hG2 (GrS p (.slice (some ⟨g, 0, none⟩) R2.length c)) (tick2_p wa.heap.size (leadM G2) _ _ ((hbx4.cell 0).trans rfl) hbx4.lt hnS4) (fun k e => .inr e)
        have cb := fun v R w (hh : GrIs w B p v R (dropD (fun x => decide (x.n = leadM G2)) G2)) => begin_c B p v R _ now w hh (hG2.drop _) hn
        obtain ⟨bb, hbb⟩ : ∃ bb, decide ((dropD (fun x => decide (x.n = leadM G2)) G2).L.length < G2.L.length) = bb := ⟨_, rfl⟩
        rw [hbb] at cd4
        have T4 : Hid (Box (wa.alloc (.cells #[.int .i64 (leadM G2)] 3)) W.heap.size 3 #[.int .i64 now] ∧ ¬ GrS p (.slice (some ⟨g, 0, none⟩) R2.length c) W.heap.size) := Lib.hid ⟨T3.out.box.later hA, fun hs => by
          rcases hs with e | e
          · exact HN.out (.inl e)
          · rcases T3.out.val _ e with e | e
            · exact HN.out (.inr e)
            · have := HB.out.size; simp at e; omega⟩
        have HA4 := Lib.hid hA
        clear hwa b0 b1 b2 b3 b4 b5 b6 bl x0 T2 hA hbx4 hnS4 hbb hfz r1 r2 r3 r4 hyn hy HLD
        go_wp2_with fail
        with_reducible refine cd4.mono ?_
        rintro e w5 ⟨rfl, v5, R5, h5, o5, hv5⟩
        have cb5 := cb _ _ _ h5
        have O5 := Lib.hid o5
        have V5 := Lib.hid hv5
        have z5 := ((T4.out.1.off o5 T4.out.2).cell 0).trans (show _ = some (Value.int .i64 now) from rfl)
        clear cb h5 o5 hv5 z0 q0 q1 q2 q3 q4 q5 q6 ql r0 cd4
        go_wp2_with fail
        with_reducible refine cb5.mono ?_
        rintro e w6 ⟨rfl, v6, R6, h6, o6, hv6⟩
        go_wp2_with fail
        go_end0
        rw [ht2.out]
        have OA := T3.out.off.trans (Off.of_below (GrS p v) HA4.out) (fun k _ e => e)
        have V5' : ∀ k, v5.ownBlock = some k → v.ownBlock = some k ∨ (W.alloc (.cells #[.int .i64 now] 3)).heap.size ≤ k := own_two2 OA.size T3.out.val V5.out
        have OB := OA.two O5.out T3.out.val
        exact Wr.later (w := W.alloc (.cells #[.int .i64 now] 3)) ⟨rfl, v6, R6, h6, OB.two o6 V5', own_two2 OB.size V5' hv6⟩ HB.out
      · have ht2 : Hid (tick2D now G2 = G2) := Lib.hid (by unfold tick2D; rw [if_neg hu, if_neg h1, if_neg h2])
        have h2' : (G2.ph == 2) = false := beq_eq_false_iff_ne.2 h2
        clear hL2 h1 h2 cc
        go_wp2_with fail
        go_quiet (fail)
        go_wp2_with fail
        go_end0
        rw [ht2.out]
        exact Wr.later (w := W.alloc (.cells #[.int .i64 now] 3)) ⟨rfl, v2, R2, T2.out.is.later (below_drewN (Below.refl _ _) _), T2.out.off.drewN _, T2.out.val⟩ HB.out
    | true =>
      rw [hd] at cd
      have HQ : Hid (goOnD now (dropD (fun x => decide (x.u ≤ now)) G) = G2) := Lib.hid (by have := HE.out; unfold tick1D at this; rw [hd] at this; first | rwa [if_pos rfl] at this | rwa [if_neg (by decide)] at this)
      clear hd HE
      go_enter Tryz.func47, Tryz.ntmps47
      go_wp2_with fail
      with_reducible refine (ct _).mono ?_
      rintro e w1 ⟨rfl, hw⟩
      subst hw
      go_wp2_with fail
      with_reducible refine cd.mono ?_
      rintro e w2 ⟨rfl, v2, R2, h2, o2, hv2⟩
      have cg2 := cg _ _ _ h2
      have O2 := Lib.hid o2
      have V2 := Lib.hid hv2
      have X2 := Lib.hid (HX.out.off o2 HN.out)
      have H2 := Lib.hid h2
      have y0 := (X2.out.cell 0).trans (show _ = some (Value.int .i64 now) from rfl)
      clear h2 o2 hv2 cg x0 cd ct
      go_wp2_with fail
      with_reducible refine cg2.mono ?_
      rintro e w3 ⟨rfl, v3, R3, h3, o3, hv3⟩
      rw [HQ.out] at h3
      have T2 : Hid (TkS W (W.alloc (.cells #[.int .i64 now] 3)) B p v W.heap.size now G2 v3 R3 w3) := Lib.hid ⟨h3, O2.out.two o3 V2.out, own_two2 O2.out.size V2.out hv3, X2.out.off o3 (fun hs => by
        rcases hs with e | e
        · exact HN.out (.inl e)
        · rcases V2.out _ e with e | e
          · exact HN.out (.inr e)
          · have := HB.out.size; simp at e; omega)⟩
      clear h3 o3 hv3 cg2 y0 O2 V2 X2 H2
      obtain ⟨b0, b1, b2, b3, b4, b5, b6, bl, _⟩ := gr7 T2.out.is.box
      have x0 := (T2.out.box.cell 0).trans (show _ = some (Value.int .i64 now) from rfl)
      by_cases hu : now < G2.un
      · have ht2 : Hid (tick2D now G2 = G2) := Lib.hid (by unfold tick2D; rw [if_pos hu])
        clear cc hL2
        go_wp2_with fail
        go_quiet (fail)
        go_wp2_with fail
        go_end0
        rw [ht2.out]
        exact Wr.later (w := W.alloc (.cells #[.int .i64 now] 3)) ⟨rfl, v3, R3, T2.out.is.later (below_drewN (Below.refl _ _) _), T2.out.off.drewN _, T2.out.val⟩ HB.out
      by_cases h1 : G2.ph = 1
      · have ht2 : Hid (tick2D now G2 = closeD now G2) := Lib.hid (by unfold tick2D; rw [if_neg hu, if_pos h1])
        have h1' : (G2.ph == 1) = true := by rw [h1]; rfl
        clear hL2 h1
        go_wp2_with fail
        go_quiet (fail)
        generalize hwa : w3.drewN nq = wa at *
        have T3 : Hid (TkS W (W.alloc (.cells #[.int .i64 now] 3)) B p v W.heap.size now G2 v3 R3 wa) := Lib.hid (by rw [← hwa]; exact ⟨T2.out.is.later (below_drewN (Below.refl _ _) _), T2.out.off.drewN _, T2.out.val, T2.out.box.drewN _⟩)
        have ccx := cc _ _ _ T3.out.is
        obtain ⟨q0, q1, q2, q3, q4, q5, q6, ql, _⟩ := gr7 T3.out.is.box
        have z0 := (T3.out.box.cell 0).trans (show _ = some (Value.int .i64 now) from rfl)
        clear hwa b0 b1 b2 b3 b4 b5 b6 bl x0 T2 cc
        go_wp2_with fail
        with_reducible refine ccx.mono ?_
        rintro e w5 ⟨rfl, v5, R5, h5, o5, hv5⟩
        go_wp2_with fail
        go_end0
        rw [ht2.out]
        exact Wr.later (w := W.alloc (.cells #[.int .i64 now] 3)) ⟨rfl, v5, R5, h5, T3.out.off.two o5 T3.out.val, own_two2 T3.out.off.size T3.out.val hv5⟩ HB.out
      have h1' : (G2.ph == 1) = false := beq_eq_false_iff_ne.2 h1
      by_cases h2 : G2.ph = 2
      · have ht2 : Hid (tick2D now G2 = beginD now (dropD (fun x => decide (x.n = leadM G2)) G2)) := Lib.hid (by unfold tick2D; rw [if_neg hu, if_neg h1, if_pos h2])
        have h2' : (G2.ph == 2) = true := by rw [h2]; rfl
        have hne := hL2 h2
        have hR0 : 0 < R3.length := by rw [T2.out.is.len]; exact List.length_pos_iff.2 hne
        have HR0 := Lib.hid hR0
        have hR0' : (0 : Int) < (R3.length : Int) := by omega
        have HLD : Hid (∃ x, R3[0]? = some x ∧ x.d.n = leadM G2) := Lib.hid (by
          have ha := T2.out.is.abs
          cases hRR : R3 with
          | nil => rw [hRR] at hR0; exact absurd hR0 (Nat.lt_irrefl _)
          | cons y RS =>
            rw [hRR] at ha
            refine ⟨y, rfl, ?_⟩
            unfold leadM
            rw [← ha]
            rfl)
        clear hL2 h1 h2 cc hne hR0
        go_wp2_with fail
        go_quiet (fail)
        generalize hwa : w3.drewN nq = wa at *
        have T3 : Hid (TkS W (W.alloc (.cells #[.int .i64 now] 3)) B p v W.heap.size now G2 v3 R3 wa) := Lib.hid (by rw [← hwa]; exact ⟨T2.out.is.later (below_drewN (Below.refl _ _) _), T2.out.off.drewN _, T2.out.val, T2.out.box.drewN _⟩)
        obtain ⟨q0, q1, q2, q3, q4, q5, q6, ql, _⟩ := gr7 T3.out.is.box
        have z0 := (T3.out.box.cell 0).trans (show _ = some (Value.int .i64 now) from rfl)
        obtain ⟨y, hy, hyn⟩ := HLD.out
        obtain ⟨g, c, ev, hgl, hBg, hgp, r0, r1, r2, r3, r4, hfz⟩ := T3.out.is.at_ hy
        rw [hyn, Nat.zero_mul] at r0
        subst ev
        have hA : Below wa.heap.size wa (wa.alloc (.cells #[.int .i64 (leadM G2)] 3)) := (Below.refl _ _).alloc (Nat.le_refl _) _
        have hbx4 := Box.new wa 3 #[.int .i64 (leadM G2)]
        have hnS4 : ¬ GrS p (.slice (some ⟨g, 0, none⟩) R3.length c) wa.heap.size := fun hs => by
          rcases hs with e | e
          · have := T3.out.is.box.lt; omega
          · have := (own_blk T3.out.is.row e).2; omega
        have cd4 := drop_c 83 #[.pointer (some ⟨wa.heap.size, 0, none⟩)] (fun x => decide (x.n = leadM G2)) (fun _ _ => rfl) B p _ R3 G2 _ (T3.out.is.later hA) hG2 (GrS p (.slice (some ⟨g, 0, none⟩) R3.length c)) (tick2_p wa.heap.size (leadM G2) _ _ ((hbx4.cell 0).trans rfl) hbx4.lt hnS4) (fun k e => .inr e)
        have cb := fun v R w (hh : GrIs w B p v R (dropD (fun x => decide (x.n = leadM G2)) G2)) => begin_c B p v R _ now w hh (hG2.drop _) hn
        obtain ⟨bb, hbb⟩ : ∃ bb, decide ((dropD (fun x => decide (x.n = leadM G2)) G2).L.length < G2.L.length) = bb := ⟨_, rfl⟩
        rw [hbb] at cd4
        have T4 : Hid (Box (wa.alloc (.cells #[.int .i64 (leadM G2)] 3)) W.heap.size 3 #[.int .i64 now] ∧ ¬ GrS p (.slice (some ⟨g, 0, none⟩) R3.length c) W.heap.size) := Lib.hid ⟨T3.out.box.later hA, fun hs => by
          rcases hs with e | e
          · exact HN.out (.inl e)
          · rcases T3.out.val _ e with e | e
            · exact HN.out (.inr e)
            · have := HB.out.size; simp at e; omega⟩
        have HA4 := Lib.hid hA
        clear hwa b0 b1 b2 b3 b4 b5 b6 bl x0 T2 hA hbx4 hnS4 hbb hfz r1 r2 r3 r4 hyn hy HLD
        go_wp2_with fail
        with_reducible refine cd4.mono ?_
        rintro e w5 ⟨rfl, v5, R5, h5, o5, hv5⟩
        have cb5 := cb _ _ _ h5
        have O5 := Lib.hid o5
        have V5 := Lib.hid hv5
        have z5 := ((T4.out.1.off o5 T4.out.2).cell 0).trans (show _ = some (Value.int .i64 now) from rfl)
        clear cb h5 o5 hv5 z0 q0 q1 q2 q3 q4 q5 q6 ql r0 cd4
        go_wp2_with fail
        with_reducible refine cb5.mono ?_
        rintro e w6 ⟨rfl, v6, R6, h6, o6, hv6⟩
        go_wp2_with fail
        go_end0
        rw [ht2.out]
        have OA := T3.out.off.trans (Off.of_below (GrS p v) HA4.out) (fun k _ e => e)
        have V5' : ∀ k, v5.ownBlock = some k → v.ownBlock = some k ∨ (W.alloc (.cells #[.int .i64 now] 3)).heap.size ≤ k := own_two2 OA.size T3.out.val V5.out
        have OB := OA.two O5.out T3.out.val
        exact Wr.later (w := W.alloc (.cells #[.int .i64 now] 3)) ⟨rfl, v6, R6, h6, OB.two o6 V5', own_two2 OB.size V5' hv6⟩ HB.out
      · have ht2 : Hid (tick2D now G2 = G2) := Lib.hid (by unfold tick2D; rw [if_neg hu, if_neg h1, if_neg h2])
        have h2' : (G2.ph == 2) = false := beq_eq_false_iff_ne.2 h2
        clear hL2 h1 h2 cc
        go_wp2_with fail
        go_quiet (fail)
        go_wp2_with fail
        go_end0
        rw [ht2.out]
        exact Wr.later (w := W.alloc (.cells #[.int .i64 now] 3)) ⟨rfl, v3, R3, T2.out.is.later (below_drewN (Below.refl _ _) _), T2.out.off.drewN _, T2.out.val⟩ HB.out
end Go.Proofs.YtlokhhjhckiloaaGreat
