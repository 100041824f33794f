/- clean: records that have no key stay: the law's walk. No condition. -/
import Derived.Test.YtdclkhbolmbnmaaDoorClBr
namespace Go.Proofs.YtdclkhbolmbnmaaDoor
open Go.RowKit Go.Maps Go.ChangeMaps Go.WideMaps
set_option linter.unusedVariables false
def RngX (x : BX) : Prop := 0 ≤ x.1.base ∧ x.1.base ≤ 1000000 ∧ 1 ≤ x.1.span ∧ x.1.span ≤ 1000
structure BrS (W : World) (L : List BX) (k s : Nat) (w : World) : Prop where
  bel : Below W.heap.size W w
  sum : s = sumB ((L.map BX.told).take k)
  le : s ≤ 50 * k
  all : ∀ x ∈ L.take k, RngX x
theorem BrS.next {W w w' : World} {L : List BX} {k s : Nat} {x : BX} (h : BrS W L k s w) (hb : Below w.heap.size w w') (hx : L[k]? = some x) (hr : RngX x) (hl : x.2.1.length ≤ 50) : BrS W L (k + 1) (s + bareN (x.2.1.map (·.1))) w' := by
  refine ⟨h.bel.trans (hb.mono h.bel.size), ?_, ?_, fun y hy => ?_⟩
  · rw [sumB_step (x := x.told) (by rw [List.getElem?_map, hx]; rfl), ← h.sum]; rfl
  · have h1 := bareN_le (x.2.1.map (·.1))
    rw [List.length_map] at h1
    have := h.le
    omega
  · rw [List.take_add_one, hx] at hy
    rcases List.mem_append.1 hy with hy | hy
    · exact h.all y hy
    · have : y = x := by simpa using hy
      subst this
      exact hr
structure SbS (w0 : World) (M : List BX) (k u : Nat) (w : World) : Prop where
  bel : Below w0.heap.size w0 w
  sum : u = sumB ((M.map BX.told).take k)
  le : u ≤ 50 * k
theorem SbS.next {w0 w w' : World} {M : List BX} {k u : Nat} {x : BX} (h : SbS w0 M k u w) (hb : Below w.heap.size w w') (hx : M[k]? = some x) (hl : x.2.1.length ≤ 50) : SbS w0 M (k + 1) (u + bareN (x.2.1.map (·.1))) w' := by
  refine ⟨h.bel.trans (hb.mono h.bel.size), ?_, ?_⟩
  · rw [sumB_step (x := x.told) (by rw [List.getElem?_map, hx]; rfl), ← h.sum]; rfl
  · have h1 := bareN_le (x.2.1.map (·.1))
    rw [List.length_map] at h1
    have := h.le
    omega
theorem told_len {L M : List BX} (h : M.map BX.told = L.map BX.told) {p : Nat → Prop} {q : Rec → Prop} (hl : ∀ x ∈ L, p x.2.1.length ∧ ∀ y ∈ x.2.1, q y.1) : ∀ x ∈ M, p x.2.1.length ∧ ∀ y ∈ x.2.1, q y.1 := by
  intro x hx
  have h1 : x.told ∈ L.map BX.told := by rw [← h]; exact told_mem hx
  obtain ⟨z, hz, e⟩ := List.mem_map.1 h1
  have e2 : z.2.1.map (·.1) = x.2.1.map (·.1) := congrArg Prod.snd e
  have h3 := hl z hz
  refine ⟨by have := congrArg List.length e2; rw [List.length_map, List.length_map] at this; rw [← this]; exact h3.1, fun y hy => ?_⟩
  have h4 : y.1 ∈ z.2.1.map (·.1) := by rw [e2]; exact List.mem_map_of_mem hy
  obtain ⟨v, hv, e3⟩ := List.mem_map.1 h4
  rw [← e3]
  exact h3.2 v hv
set_option maxHeartbeats 32000000 in
set_option maxRecDepth 100000 in
theorem cleanBare_walk (L : List BX) (A : Option Addr) (c : Nat) (upto before : Int) (W : World) (hA : BsIn W A L) (hr : ∀ x ∈ L, x.2.1.length ≤ 140737488351232 ∧ Pr.i64B x.1.prod) {p q : Prop} (hw1 : p) (hw2 : q) (tab : True) :
    Calls Tryd.prog 5 #[.slice A L.length c, .int .i64 upto, .int .i64 before] W (Good W (.bool true)) := by
  have cf := few_c L A c W hA (fun x hx => (hr x hx).1)
  have HA := Lib.hid hA
  have HR := Lib.hid hr
  have cl := fun w => live_c w
  have CL := Lib.hid cl
  clear hA hr hw1 hw2 tab cl
  go_enter Tryd.func5, Tryd.ntmps5
  go_wp2_with fail
  (with_reducible refine cf.mono ?_)
  rintro e w1 ⟨res, rfl, hfew, hb1⟩
  cases res with
  | false =>
    have HB := Lib.hid hb1
    have cl := CL.out w1
    clear hfew cf hb1
    go_wp2_with fail
    (with_reducible refine cl.mono ?_)
    rintro e w2 ⟨rfl, hb2⟩
    have HB2 := Lib.hid (HB.out.trans (hb2.mono HB.out.size))
    clear cl hb2
    go_wp2_with fail
    go_ret
    exact ⟨rfl, HB2.out⟩
  | true =>
    have HF := Lib.hid (hfew rfl)
    have hl8 : L.length ≤ 8 := HF.out.1
    have H0 : Hid (BrS W L 0 0 w1) := Lib.hid ⟨hb1, rfl, Nat.le_refl _, fun x hx => by simp at hx⟩
    clear cf hfew hb1
    go_wp2_with fail
    go_loopw [7, 8] (fun n i wr => ∃ k s : Nat, n = .int .i64 s ∧ i = .int .i64 k ∧ k ≤ L.length ∧ BrS W L k s wr) (fun _ i _ => L.length - (intOf i).toNat)
    case atStart => exact ⟨0, 0, rfl, rfl, Nat.zero_le _, H0.out⟩
    case round =>
      obtain ⟨k, s, rfl, rfl, hk, hS⟩ := hrel
      clear H0
      by_cases hkl : k < L.length
      · obtain ⟨x, hx⟩ : ∃ x, L[k]? = some x := ⟨_, List.getElem?_eq_getElem hkl⟩
        obtain ⟨b, off, rfl, hbl, hca⟩ := (HA.out.below hS.bel) (by omega)
        obtain ⟨hbx, hrs⟩ := hca k x hx
        obtain ⟨z0, z1, z2, z3, z4, z5⟩ := hbx
        have HRS := Lib.hid hrs
        have HS := Lib.hid hS
        have HXX := Lib.hid hx
        have hR50 : x.2.1.length ≤ 50 := (HF.out.2 x (List.mem_of_getElem? hx)).1.1
        have HN := Lib.hid (fun w' hb hr => hS.next (w' := w') hb hx hr hR50)
        have hle : s ≤ 400 := by have := hS.le; omega
        have cl := CL.out wr
        have hki : (k : Int) < (L.length : Int) := by omega
        have hk0 : (0 : Int) ≤ (k : Int) := by omega
        obtain ⟨⟨base, span, prod, epoch, seq⟩, R, RA, rc⟩ := x
        dsimp only at *
        clear hS hca hx hrs
        generalize hk6 : k * 6 = k6 at *
        by_cases q1 : base < 0
        · go_wp2_with fail
          (with_reducible refine cl.mono ?_)
          rintro e w2 ⟨rfl, hb2⟩
          have HB2 := Lib.hid (HS.out.bel.trans (hb2.mono HS.out.bel.size))
          clear cl hb2
          go_wp2_with fail
          go_ret
          exact ⟨rfl, HB2.out⟩
        by_cases q2 : 1000000 < base
        · go_wp2_with fail
          (with_reducible refine cl.mono ?_)
          rintro e w2 ⟨rfl, hb2⟩
          have HB2 := Lib.hid (HS.out.bel.trans (hb2.mono HS.out.bel.size))
          clear cl hb2
          go_wp2_with fail
          go_ret
          exact ⟨rfl, HB2.out⟩
        by_cases q3 : span < 1
        · go_wp2_with fail
          (with_reducible refine cl.mono ?_)
          rintro e w2 ⟨rfl, hb2⟩
          have HB2 := Lib.hid (HS.out.bel.trans (hb2.mono HS.out.bel.size))
          clear cl hb2
          go_wp2_with fail
          go_ret
          exact ⟨rfl, HB2.out⟩
        by_cases q4 : 1000 < span
        · go_wp2_with fail
          (with_reducible refine cl.mono ?_)
          rintro e w2 ⟨rfl, hb2⟩
          have HB2 := Lib.hid (HS.out.bel.trans (hb2.mono HS.out.bel.size))
          clear cl hb2
          go_wp2_with fail
          go_ret
          exact ⟨rfl, HB2.out⟩
        clear cl
        have HQ : Hid (RngX (⟨base, span, prod, epoch, seq⟩, R, RA, rc)) := Lib.hid ⟨by show 0 ≤ base; omega, by show base ≤ 1000000; omega, by show 1 ≤ span; omega, by show span ≤ 1000; omega⟩
        go_wp2_with fail
        have HB5 := Lib.hid (And.intro z5 hbl)
        clear z0 z1 z2 z3 z4 z5 hbl q1 q2 q3 q4
        go_loopw [7, 9] (fun n j w => ∃ m t : Nat, n = .int .i64 t ∧ j = .int .i64 m ∧ m ≤ R.length ∧ t = s + bareN ((R.map (·.1)).take m) ∧ t ≤ s + m ∧ Below wr.heap.size wr w) (fun _ j _ => R.length - (intOf j).toNat)
        case atStart => exact ⟨0, s, rfl, rfl, Nat.zero_le _, rfl, Nat.le_refl _, Below.refl _ _⟩
        case round =>
          obtain ⟨m, t, rfl, rfl, hm, hts, htm, hbw⟩ := hrel
          have y5 := (hbw.cell (p := ⟨b, off + k6 + 5, none⟩) HB5.out.2).trans HB5.out.1
          have hl1 := Nat.lt_of_lt_of_le HB5.out.2 hbw.size
          have HBW := Lib.hid hbw
          have HTS := Lib.hid hts
          by_cases hml : m < R.length
          · obtain ⟨y, hy⟩ : ∃ y, R[m]? = some y := ⟨_, List.getElem?_eq_getElem hml⟩
            obtain ⟨b2, off2, rfl, hbl2, hc2⟩ := (HRS.out.below hbw) (by omega)
            obtain ⟨⟨_, _, p2, _, _, _, _⟩, _⟩ := hc2 m y hy
            have HY := Lib.hid (bareN_step (show (R.map (·.1))[m]? = some y.1 by rw [List.getElem?_map, hy]; rfl))
            have hmi : (m : Int) < (R.length : Int) := by omega
            have hm0 : (0 : Int) ≤ (m : Int) := by omega
            clear hbw hc2 hy hts
            generalize hm7 : m * 7 = m7 at *
            generalize y.1.bare = ba at *
            cases ba with
            | true =>
              go_wp2_with fail
              go_roundw
              case rel => exact ⟨m + 1, t + 1, by go_num, by go_num, hml, by rw [HY.out, HTS.out, if_pos rfl]; omega, by omega, HBW.out⟩
              case measure => simp [intOf]; omega
            | false =>
              go_wp2_with fail
              go_roundw
              case rel => exact ⟨m + 1, t, rfl, by go_num, hml, by rw [HY.out, HTS.out, if_neg (by decide)]; omega, by omega, HBW.out⟩
              case measure => simp [intOf]; omega
          · have hmi : ¬ (m : Int) < (R.length : Int) := by omega
            have HT : Hid (t = s + bareN (R.map (·.1))) := Lib.hid (by rw [hts, List.take_of_length_le (by rw [List.length_map]; omega)])
            clear hbw hts
            go_wp2_with fail
            go_roundw
            case rel => exact ⟨k + 1, t, rfl, by go_num, hkl, by rw [HT.out]; exact HN.out _ HBW.out HQ.out⟩
            case measure => simp [intOf]; omega
      · have hki : ¬ (k : Int) < (L.length : Int) := by omega
        have hkk : k = L.length := by omega
        have hsum : s = sumB (L.map BX.told) := by rw [hS.sum, List.take_of_length_le (by rw [List.length_map]; omega)]
        have hall : ∀ x ∈ L, RngX x := by
          have := hS.all
          rwa [List.take_of_length_le (by omega)] at this
        have hle : s ≤ 400 := by have := hS.le; omega
        have HBL := Lib.hid hS.bel
        have HAL := Lib.hid hall
        have HSU := Lib.hid hsum
        have CC := Lib.hid (fun (w : World) (hb : Below W.heap.size W w) (up : Int) => clean_c L A c up before w (HA.out.below hb) (by omega) (fun x hx => by have := (HF.out.2 x hx).1.1; omega) (fun x hx y hy => by have := ((HF.out.2 x hx).1.2 y hy).2.1; unfold maxLen; omega) (fun x hx y hy => by have := ((HF.out.2 x hx).1.2 y hy).1; omega) (fun x hx => (HR.out x hx).2) (fun x hx => by
          obtain ⟨h1, h2, h3, h4⟩ := hall x hx
          unfold Pr.i64B
          omega))
        have cc := CC.out wr hS.bel upto
        clear hS hsum hall
        go_wp2_with fail
        (with_reducible refine cc.mono ?_)
        rintro e w2 ⟨M, B, d, hM, rfl, hbt, hb2⟩
        have hfit := cleaned_fit HF.out hM
        have HBI := Lib.hid (own_bsin hbt (fun x hx y hy => small_smr ((hfit.2 x hx).2 y hy)))
        have hT : sumB (M.map BX.told) = s := by rw [hM, sumB_clnL, HSU.out]
        have HT := Lib.hid hT
        have hm8 : M.length ≤ 8 := hfit.1
        have HM50 := Lib.hid hfit.2
        have HB2 := Lib.hid (HBL.out.trans (hb2.mono HBL.out.size))
        have H0 : Hid (SbS w2 M 0 0 w2) := Lib.hid ⟨Below.refl _ _, rfl, Nat.le_refl _⟩
        clear cc hfit hbt hb2 hM hT
        go_wp2_with fail
        go_loopw [7, 11] (fun n i wr => ∃ (k u : Nat) (z : Int), n = .int .i64 z ∧ i = .int .i64 k ∧ k ≤ M.length ∧ z = (s : Int) - (u : Int) ∧ SbS w2 M k u wr) (fun _ i _ => M.length - (intOf i).toNat)
        case atStart => exact ⟨0, 0, s, rfl, rfl, Nat.zero_le _, by omega, H0.out⟩
        case round =>
          obtain ⟨k, u, z, rfl, rfl, hk, hz, hS⟩ := hrel
          clear H0
          by_cases hkl : k < M.length
          · obtain ⟨x, hx⟩ : ∃ x, M[k]? = some x := ⟨_, List.getElem?_eq_getElem hkl⟩
            obtain ⟨b, off, rfl, hbl, hca⟩ := (HBI.out.below hS.bel) (by omega)
            obtain ⟨hbx, hrs⟩ := hca k x hx
            obtain ⟨_, _, _, _, _, z5⟩ := hbx
            have HRS := Lib.hid hrs
            have HS := Lib.hid hS
            have hR50 : x.2.1.length ≤ 50 := (HM50.out x (List.mem_of_getElem? hx)).1
            have HN := Lib.hid (fun w' hb => hS.next (w' := w') hb hx hR50)
            have hle2 : u ≤ 400 := by have := hS.le; omega
            have hki : (k : Int) < (M.length : Int) := by omega
            have hk0 : (0 : Int) ≤ (k : Int) := by omega
            obtain ⟨⟨base, span, prod, epoch, seq⟩, R, RA, rc⟩ := x
            dsimp only at *
            clear hS hca hx hrs
            generalize hk6 : k * 6 = k6 at *
            have HB5 := Lib.hid (And.intro z5 hbl)
            have HZ := Lib.hid hz
            go_wp2_with fail
            clear z5 hbl
            go_loopw [7, 12] (fun n j w => ∃ (m t : Nat) (y : Int), n = .int .i64 y ∧ j = .int .i64 m ∧ m ≤ R.length ∧ y = (s : Int) - (t : Int) ∧ t = u + bareN ((R.map (·.1)).take m) ∧ t ≤ u + m ∧ Below wr.heap.size wr w) (fun _ j _ => R.length - (intOf j).toNat)
            case atStart => exact ⟨0, u, z, rfl, rfl, Nat.zero_le _, HZ.out, rfl, Nat.le_refl _, Below.refl _ _⟩
            case round =>
              obtain ⟨m, t, yy, rfl, rfl, hm, hyt, hts, htm, hbw⟩ := hrel
              have y5 := (hbw.cell (p := ⟨b, off + k6 + 5, none⟩) HB5.out.2).trans HB5.out.1
              have hl1 := Nat.lt_of_lt_of_le HB5.out.2 hbw.size
              have HBW := Lib.hid hbw
              have HTS := Lib.hid hts
              have HYT := Lib.hid hyt
              by_cases hml : m < R.length
              · obtain ⟨y, hy⟩ : ∃ y, R[m]? = some y := ⟨_, List.getElem?_eq_getElem hml⟩
                obtain ⟨b2, off2, rfl, hbl2, hc2⟩ := (HRS.out.below hbw) (by omega)
                obtain ⟨⟨_, _, p2, _, _, _, _⟩, _⟩ := hc2 m y hy
                have HY := Lib.hid (bareN_step (show (R.map (·.1))[m]? = some y.1 by rw [List.getElem?_map, hy]; rfl))
                have hmi : (m : Int) < (R.length : Int) := by omega
                have hm0 : (0 : Int) ≤ (m : Int) := by omega
                have hy1 : -1000 ≤ yy := by omega
                have hy2 : yy ≤ 1000 := by omega
                clear hbw hc2 hy hts hyt hz
                generalize hm7 : m * 7 = m7 at *
                generalize y.1.bare = ba at *
                cases ba with
                | true =>
                  go_wp2_with fail
                  go_roundw
                  case rel => exact ⟨m + 1, t + 1, yy - 1, by go_num, by go_num, hml, by have := HYT.out; omega, by rw [HY.out, HTS.out, if_pos rfl]; omega, by omega, HBW.out⟩
                  case measure => simp [intOf]; omega
                | false =>
                  go_wp2_with fail
                  go_roundw
                  case rel => exact ⟨m + 1, t, yy, rfl, by go_num, hml, HYT.out, by rw [HY.out, HTS.out, if_neg (by decide)]; omega, by omega, HBW.out⟩
                  case measure => simp [intOf]; omega
              · have hmi : ¬ (m : Int) < (R.length : Int) := by omega
                have HT2 : Hid (t = u + bareN (R.map (·.1))) := Lib.hid (by rw [hts, List.take_of_length_le (by rw [List.length_map]; omega)])
                clear hbw hts hyt hz
                go_wp2_with fail
                go_roundw
                case rel => exact ⟨k + 1, t, yy, rfl, by go_num, hkl, HYT.out, by rw [HT2.out]; exact HN.out _ HBW.out⟩
                case measure => simp [intOf]; omega
          · have hki : ¬ (k : Int) < (M.length : Int) := by omega
            have hus : u = s := by rw [hS.sum, List.take_of_length_le (by rw [List.length_map]; omega)]; exact HT.out
            obtain rfl : z = 0 := by omega
            have HB3 := Lib.hid (HB2.out.trans (hS.bel.mono HB2.out.size))
            have c2 := CC.out wr HB3.out 0
            have cl := CL.out
            clear hS hus hz
            go_wp2_with fail
            (with_reducible refine c2.mono ?_)
            rintro e w4 ⟨M2, B2, d2, hM2, rfl, hbt2, hb4⟩
            have he : M2.map BX.told = L.map BX.told := by
              rw [hM2]
              exact clnL_up (fun z hz => by
                obtain ⟨v, hv, rfl⟩ := List.mem_map.1 hz
                obtain ⟨h1, _, h3, _⟩ := HAL.out v hv
                show 0 < v.1.base + v.1.span
                omega)
            have hfit2 := cleaned_fit HF.out hM2
            have hbi2 := own_bsin hbt2 (fun x hx y hy => small_smr ((hfit2.2 x hx).2 y hy))
            have hB4 := HB3.out.trans (hb4.mono HB3.out.size)
            have cs := rsameAll5_c M2 L B2 A d2 c w4 hbi2 (HA.out.below hB4) he (by omega) (fun x hx => ⟨by have := (hfit2.2 x hx).1; omega, fun y hy => by have := ((hfit2.2 x hx).2 y hy).1; omega⟩)
            have HB4 := Lib.hid hB4
            clear c2 hM2 hbt2 hb4 he hfit2 hbi2 hB4
            go_wp2_with fail
            (with_reducible refine cs.mono ?_)
            rintro e w5 ⟨rfl, hb5⟩
            have HB5 := Lib.hid (HB4.out.trans (hb5.mono HB4.out.size))
            have cl5 := cl w5
            clear cs hb5 cl
            go_wp2_with fail
            (with_reducible refine cl5.mono ?_)
            rintro e w6 ⟨rfl, hb6⟩
            have HB6 := Lib.hid (HB5.out.trans (hb6.mono HB5.out.size))
            clear cl5 hb6
            go_wp2_with fail
            go_ret
            exact ⟨rfl, HB6.out⟩
end Go.Proofs.YtdclkhbolmbnmaaDoor
