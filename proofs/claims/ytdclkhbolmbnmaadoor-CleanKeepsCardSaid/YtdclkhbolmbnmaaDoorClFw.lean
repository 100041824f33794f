/- clean: whether the batches are few and small, as the law asks it. No condition. -/
import Derived.Test.YtdclkhbolmbnmaaDoorClSm
import Derived.Test.YtdclkhbolmbnmaaDoorClLv
namespace Go.Proofs.YtdclkhbolmbnmaaDoor
open Go.RowKit Go.Maps Go.ChangeMaps Go.WideMaps
set_option linter.unusedVariables false
def FewX (x : BX) : Prop := SmallL x.2.1 ∧ (0 ≤ x.1.base ∧ x.1.base ≤ 2199023255552) ∧ (0 ≤ x.1.span ∧ x.1.span ≤ 1000) ∧ ∀ y ∈ x.2.1, 0 ≤ y.1.place ∧ y.1.place ≤ 1000
def FewL (L : List BX) : Prop := L.length ≤ 8 ∧ ∀ x ∈ L, FewX x
def GotFw (W : World) (L : List BX) (en : Ending) (w' : World) : Prop := ∃ res, en = .returned (.bool res) ∧ (res = true → FewL L) ∧ Below W.heap.size W w'
structure FwS (W : World) (L : List BX) (k : Nat) (w : World) : Prop where
  bel : Below W.heap.size W w
  all : ∀ x ∈ L.take k, FewX x
theorem FwS.later {W w w' : World} {L : List BX} {k : Nat} (h : FwS W L k w) (hb : Below w.heap.size w w') : FwS W L k w' := ⟨h.bel.trans (hb.mono h.bel.size), h.all⟩
theorem FwS.next {W w : World} {L : List BX} {k : Nat} {x : BX} (h : FwS W L k w) (hx : L[k]? = some x) (hf : FewX x) : FwS W L (k + 1) w := by
  refine ⟨h.bel, fun y hy => ?_⟩
  rw [List.take_add_one, hx] at hy
  rcases List.mem_append.1 hy with hy | hy
  · exact h.all y hy
  · have : y = x := by simpa using hy
    subst this
    exact hf
set_option maxHeartbeats 16000000 in
set_option maxRecDepth 100000 in
theorem few_c (L : List BX) (A : Option Addr) (c : Nat) (W : World) (hA : BsIn W A L) (hr : ∀ x ∈ L, x.2.1.length ≤ 140737488351232) :
    Calls Tryd.prog 6 #[.slice A L.length c] W (GotFw W L) := by
  have H0 : Hid (FwS W L 0 W) := Lib.hid ⟨Below.refl _ _, fun x hx => by simp at hx⟩
  have HA := Lib.hid hA
  have HR := Lib.hid hr
  clear hA hr
  by_cases h8 : 8 < L.length
  · have h8' : (8 : Int) < (L.length : Int) := by omega
    go_enter Tryd.func6, Tryd.ntmps6
    go_wp2_with fail
    go_ret
    exact ⟨false, rfl, (fun e => by cases e), H0.out.bel⟩
  have h8' : ¬ (8 : Int) < (L.length : Int) := by omega
  have hl8 : L.length ≤ 8 := by omega
  go_enter Tryd.func6, Tryd.ntmps6
  go_wp2_with fail
  clear h8'
  go_loopw [3] (fun i wr => ∃ k : Nat, i = .int .i64 k ∧ k ≤ L.length ∧ FwS W L k wr) (fun i _ => L.length - (intOf i).toNat)
  case atStart => exact ⟨0, rfl, Nat.zero_le _, H0.out⟩
  case round =>
    obtain ⟨k, rfl, hk, hS⟩ := hrel
    clear H0
    by_cases hkl : k < L.length
    · obtain ⟨x, hx⟩ : ∃ x, L[k]? = some x := ⟨_, List.getElem?_eq_getElem hkl⟩
      obtain ⟨b, off, rfl, hbl, hca⟩ := (HA.out.below hS.bel) (by omega)
      obtain ⟨hbx, hrs⟩ := hca k x hx
      have hbl' := hbl
      have HX := Lib.hid (And.intro hbx (And.intro hrs hbl'))
      obtain ⟨z0, z1, z2, z3, z4, z5⟩ := hbx
      have HS := Lib.hid hS
      have HXX := Lib.hid hx
      have hm := rsmall_c x.1 x.2.1 x.2.2.1 x.2.2.2 wr hrs (HR.out x (List.mem_of_getElem? hx))
      have hki : (k : Int) < (L.length : Int) := by omega
      have hk0 : (0 : Int) ≤ (k : Int) := by omega
      obtain ⟨⟨base, span, prod, epoch, seq⟩, R, RA, rc⟩ := x
      unfold bnC at hm
      dsimp only at *
      clear hS hca hx hrs
      generalize hk6 : k * 6 = k6 at *
      go_wp2_with fail
      (with_reducible refine hm.mono ?_)
      rintro e w1 ⟨res, rfl, hsm, hb1⟩
      have HS1 := Lib.hid (HS.out.later hb1)
      obtain ⟨y0, y1, y2, y3, y4, y5⟩ := HX.out.1.below HX.out.2.2 hb1
      have hl1 : b < w1.heap.size := Nat.lt_of_lt_of_le HX.out.2.2 hb1.size
      have HRS := Lib.hid (HX.out.2.1.below hb1)
      clear hm hb1 z0 z1 z2 z3 z4 z5
      cases res with
      | false =>
        clear hsm
        go_wp2_with fail
        go_ret
        exact ⟨false, rfl, (fun e => by cases e), HS1.out.bel⟩
      | true =>
        have HSM := Lib.hid (hsm rfl)
        clear hsm
        by_cases q1 : base < 0
        · go_wp2_with fail
          go_ret
          exact ⟨false, rfl, (fun e => by cases e), HS1.out.bel⟩
        by_cases q2 : 2199023255552 < base
        · go_wp2_with fail
          go_ret
          exact ⟨false, rfl, (fun e => by cases e), HS1.out.bel⟩
        by_cases q3 : span < 0
        · go_wp2_with fail
          go_ret
          exact ⟨false, rfl, (fun e => by cases e), HS1.out.bel⟩
        by_cases q4 : 1000 < span
        · go_wp2_with fail
          go_ret
          exact ⟨false, rfl, (fun e => by cases e), HS1.out.bel⟩
        go_wp2_with fail
        have HQ := Lib.hid (And.intro (And.intro (show 0 ≤ base by omega) (show base ≤ 2199023255552 by omega)) (And.intro (show 0 ≤ span by omega) (show span ≤ 1000 by omega)))
        have hb5 := And.intro y5 hl1
        have HB5 := Lib.hid hb5
        have hrl : R.length ≤ 50 := HSM.out.1
        clear y0 y1 y2 y3 y4 y5 hl1 q1 q2 q3 q4 hb5
        go_loopw [4] (fun j w => ∃ m : Nat, j = .int .i64 m ∧ m ≤ R.length ∧ Below w1.heap.size w1 w ∧ ∀ y ∈ R.take m, 0 ≤ y.1.place ∧ y.1.place ≤ 1000) (fun j _ => R.length - (intOf j).toNat)
        case atStart => exact ⟨0, rfl, Nat.zero_le _, Below.refl _ _, fun x hx => by simp at hx⟩
        case round =>
          obtain ⟨m, rfl, hm, hbw, hall⟩ := hrel
          have y5 := (hbw.cell (p := ⟨b, off + k6 + 5, none⟩) HB5.out.2).trans HB5.out.1
          have hl1 := Nat.lt_of_lt_of_le HB5.out.2 hbw.size
          have HBW := Lib.hid hbw
          have HALL := Lib.hid hall
          by_cases hml : m < R.length
          · obtain ⟨y, hy⟩ : ∃ y, R[m]? = some y := ⟨_, List.getElem?_eq_getElem hml⟩
            obtain ⟨b2, off2, rfl, hbl2, hc2⟩ := (HRS.out.below hbw) (by omega)
            obtain ⟨⟨p0, _, _, _, _, _, _⟩, _⟩ := hc2 m y hy
            have HY := Lib.hid hy
            have hmi : (m : Int) < (R.length : Int) := by omega
            have hm0 : (0 : Int) ≤ (m : Int) := by omega
            clear hbw hall hc2 hy
            generalize hm7 : m * 7 = m7 at *
            generalize hpl : y.1.place = pl at *
            have HPL := Lib.hid hpl
            clear hpl
            by_cases t1 : pl < 0
            · go_wp2_with fail
              go_ret
              exact ⟨false, rfl, (fun e => by cases e), HS1.out.bel.trans (HBW.out.mono HS1.out.bel.size)⟩
            by_cases t2 : 1000 < pl
            · go_wp2_with fail
              go_ret
              exact ⟨false, rfl, (fun e => by cases e), HS1.out.bel.trans (HBW.out.mono HS1.out.bel.size)⟩
            have HP := Lib.hid (And.intro (show 0 ≤ pl by omega) (show pl ≤ 1000 by omega))
            go_wp2_with fail
            go_roundw
            case rel =>
              refine ⟨m + 1, by go_num, hml, HBW.out, fun z hz => ?_⟩
              rw [List.take_add_one, HY.out] at hz
              rcases List.mem_append.1 hz with hz | hz
              · exact HALL.out z hz
              · have e : z = y := by simpa using hz
                subst e
                rw [HPL.out]
                exact HP.out
            case measure => simp [intOf]; omega
          · have hmi : ¬ (m : Int) < (R.length : Int) := by omega
            have HE := Lib.hid (hall)
            have HL := Lib.hid (show R.length ≤ m by omega)
            clear hbw hall
            go_wp2_with fail
            have hf : FewX (⟨base, span, prod, epoch, seq⟩, R, RA, rc) := ⟨HSM.out, HQ.out.1, HQ.out.2, fun y hy => HE.out y (by rw [List.take_of_length_le HL.out]; exact hy)⟩
            have HN := (HS1.out.next HXX.out hf).later (HBW.out)
            go_roundw
            case rel => exact ⟨k + 1, by go_num, hkl, HN⟩
            case measure => simp [intOf]; omega
    · have hki : ¬ (k : Int) < (L.length : Int) := by omega
      have hall := hS.all
      rw [List.take_of_length_le (by omega)] at hall
      have HF := Lib.hid (And.intro hall hS.bel)
      clear hS hall
      go_wp2_with fail
      go_ret
      exact ⟨true, rfl, (fun _ => ⟨by omega, HF.out.1⟩), HF.out.2⟩
end Go.Proofs.YtdclkhbolmbnmaaDoor
