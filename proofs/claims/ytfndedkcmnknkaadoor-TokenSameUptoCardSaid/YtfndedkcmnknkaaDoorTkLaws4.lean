/- TokenSame, walked. Condition: the text's length; the tables of utf8. -/
import Derived.Test.YtfndedkcmnknkaaDoorTkLaws3
import Derived.Deep.RegionHeld3
namespace Go.Proofs.YtfndedkcmnknkaaDoor
open Go.RowKit
set_option linter.unusedVariables false
/-- What a round of TokenSame's loop reads, wherever its calls have been. -/
structure SmS (W : World) (g1 i g2 : Nat) (x : ByteArray) (w : World) : Prop where
  one : w.cell? ⟨g1, i, none⟩ = some (.string x)
  two : w.cell? ⟨g2, 0, none⟩ = some (.string x)
  tabs : Tabs w
  bel : Below W.heap.size W w
theorem SmS.later {W w w' : World} {g1 i g2 : Nat} {x : ByteArray} (h : SmS W g1 i g2 x w) (hb : Below w.heap.size w w') : SmS W g1 i g2 x w' :=
  ⟨(hb.cell (p := ⟨g1, i, none⟩) (tab_lt h.one)).trans h.one, (hb.cell (p := ⟨g2, 0, none⟩) (tab_lt h.two)).trans h.two, h.tabs.below hb, h.bel.trans (hb.mono h.bel.size)⟩
theorem SmS.three {W w : World} {g1 i g2 : Nat} {x : ByteArray} (h : SmS W g1 i g2 x w) : w.cell? ⟨g1, i, none⟩ = some (.string x) ∧ w.cell? ⟨g2, 0, none⟩ = some (.string x) ∧ SmS W g1 i g2 x w := ⟨h.one, h.two, h⟩
theorem sm_later {W w w' : World} {g1 i g2 : Nat} {x : ByteArray} (h : w.cell? ⟨g1, i, none⟩ = some (.string x) ∧ w.cell? ⟨g2, 0, none⟩ = some (.string x) ∧ SmS W g1 i g2 x w) (hb : Below w.heap.size w w') : w'.cell? ⟨g1, i, none⟩ = some (.string x) ∧ w'.cell? ⟨g2, 0, none⟩ = some (.string x) ∧ SmS W g1 i g2 x w' := (h.2.2.later hb).three
theorem sm_bel {W w : World} {g1 i g2 : Nat} {x : ByteArray} (h : w.cell? ⟨g1, i, none⟩ = some (.string x) ∧ w.cell? ⟨g2, 0, none⟩ = some (.string x) ∧ SmS W g1 i g2 x w) : Below W.heap.size W w := h.2.2.bel
theorem sm_tabs {W w : World} {g1 i g2 : Nat} {x : ByteArray} (h : w.cell? ⟨g1, i, none⟩ = some (.string x) ∧ w.cell? ⟨g2, 0, none⟩ = some (.string x) ∧ SmS W g1 i g2 x w) : Tabs w := h.2.2.tabs
set_option maxHeartbeats 8000000 in
set_option maxRecDepth 100000 in
theorem same_w (L : List UInt8) (W : World) (hl : L.length ≤ 1048576) (hT : Tabs W) : Calls Tryd.prog 6 #[.string (bs L)] W (Yes W) := by
  have hn := TK.words_count L
  have c1 := words_c L (by omega) (by omega) W hT
  have cF := fun w => fold_c L w (by omega)
  have c2 := fun w h => words_c (TK.foldL L) (by rw [TK.foldL_length]; omega) (by rw [TK.words_fold]; omega) w h
  rw [TK.words_fold] at c2
  have hone : ∀ x, x ∈ TK.words L → TK.words x = [x] ∧ TK.foldL x = x := fun x h => TK.words_one h
  have hlen : ∀ x, x ∈ TK.words L → x.length ≤ 1048576 := fun x h => by
    unfold TK.words at h
    rw [List.mem_map] at h
    obtain ⟨p, _, rfl⟩ := h
    rw [TK.foldL_length]
    have := piece_le L p.1 p.2
    omega
  have hhas : ∀ x, x ∈ TK.words L → ∀ w, Tabs w → Calls Tryd.prog 15 #[.string (bs L), .string (bs x)] w (Good w (.bool true)) := fun x h w hTw => by
    have h2 := has_c L x (by omega) (by have := hlen x h; omega) w hTw
    have e : hasB L x = true := by
      unfold hasB
      rw [(hone x h).2]
      exact decide_eq_true h
    rw [e] at h2
    exact h2
  have H1 := Lib.hid (And.intro hone (And.intro hlen hhas))
  clear hone hlen hhas
  generalize TK.words L = ws at *
  go_enter Tryd.func6, Tryd.ntmps6
  go_wp2_with fail
  (with_reducible refine c1.mono ?_)
  rintro e w1 ⟨v, rfl, hr1, hb1⟩
  have HB1 := Lib.hid hb1
  have HR1 := Lib.hid hr1
  clear hb1 c1 hr1
  go_wp2_with fail
  (with_reducible refine (cF _).mono ?_)
  rintro e w2 ⟨rfl, hb2⟩
  have HB2 := Lib.hid (HB1.out.trans (hb2.mono HB1.out.size))
  have HR2 := Lib.hid (own_below HR1.out hb2)
  clear hb2 cF HB1 HR1
  go_wp2_with fail
  (with_reducible refine (c2 _ (hT.below HB2.out)).mono ?_)
  rintro e w3 ⟨v2, rfl, hr3, hb3⟩
  have cs := tsame_c ws _ _ v v2 w3 (own_below HR2.out hb3) hr3 (by omega)
  have HB3 := Lib.hid (HB2.out.trans (hb3.mono HB2.out.size))
  have HR3 := Lib.hid (own_below HR2.out hb3)
  clear hb3 hr3 c2 HB2 HR2
  go_wp2_with fail
  (with_reducible refine cs.mono ?_)
  rintro e w4 ⟨rfl, hb4⟩
  have HB4 := Lib.hid (HB3.out.trans (hb4.mono HB3.out.size))
  have HR4 := Lib.hid (own_below HR3.out hb4)
  clear hb4 cs HB3 HR3
  obtain ⟨nb, cap, hv⟩ := row_shape HR4.out
  subst hv
  go_wp2_with fail
  go_loopw [5] (fun i wr => ∃ j : Nat, i = .int .i64 j ∧ j ≤ ws.length ∧ Below w4.heap.size w4 wr) (fun i _ => ws.length - (intOf i).toNat)
  case atStart => exact ⟨0, rfl, Nat.zero_le _, Below.refl _ _⟩
  case round =>
    obtain ⟨j, rfl, hj, hb⟩ := hrel
    have hBW := HB4.out.trans (hb.mono HB4.out.size)
    by_cases hjl : j < ws.length
    · have hr := own_below HR4.out hb
      obtain ⟨g1, rfl⟩ := row_block hr (by omega)
      have hin : ws[j] ∈ ws := List.getElem_mem hjl
      have x1 : wr.cell? ⟨g1, j, none⟩ = some (.string (bs ws[j])) := (hr.cellAt j (by omega)).trans (strC_at (List.getElem?_eq_getElem hjl))
      have hlen := H1.out.2.1 _ hin
      have cw := words_c ws[j] (by omega) (by rw [(H1.out.1 _ hin).1]; simp) wr (hT.below hBW)
      rw [(H1.out.1 _ hin).1] at cw
      have ch := H1.out.2.2 _ hin
      have cf := fun w => fold_c ws[j] w (by omega)
      rw [(H1.out.1 _ hin).2] at cf
      have hji : (j : Int) < (ws.length : Int) := by omega
      have hj0 : (0 : Int) ≤ (j : Int) := by omega
      have HBW := Lib.hid hBW
      have HBB := Lib.hid hb
      clear hr hBW hb hin hlen
      obtain ⟨x, hx⟩ : ∃ x, ws[j] = x := ⟨_, rfl⟩
      rw [hx] at x1 cw ch cf
      clear hx
      go_wp2_with fail
      (with_reducible refine cw.mono ?_)
      rintro e w5 ⟨v5, rfl, hr5, hb5⟩
      obtain ⟨nb5, cap5, hv5⟩ := row_shape hr5
      have hv5' : v5 = .slice nb5 1 cap5 := hv5
      subst hv5'
      obtain ⟨g2, rfl⟩ := row_block hr5 (by simp)
      have x2 : w5.cell? ⟨g2, 0, none⟩ = some (.string (bs x)) := (hr5.cellAt 0 (by simp)).trans (strC_at rfl)
      have hS0 : SmS w4 g1 j g2 (bs x) w5 := ⟨(hb5.cell (p := ⟨g1, j, none⟩) (tab_lt x1)).trans x1, x2, (hT.below HBW.out).below hb5, HBB.out.trans (hb5.mono HBB.out.size)⟩
      clear hr5 hb5 x1 x2 cw hv5
      generalize bs x = sx at *
      go_wp2_with fail
      go_region_held3 (fun w => w.cell? ⟨g1, j, none⟩ = some (.string sx) ∧ w.cell? ⟨g2, 0, none⟩ = some (.string sx) ∧ SmS w4 g1 j g2 sx w)
        (first | exact (hS0.later ((Below.refl _ _).drew)).three | exact sm_later (by assumption) (by assumption))
        (first
          | ((with_reducible refine (ch _ (sm_tabs (W := w4) (g1 := g1) (i := j) (g2 := g2) (x := sx) (by assumption))).mono ?_); rintro e w6 ⟨rfl, hb6⟩)
          | ((with_reducible refine (cf _).mono ?_); rintro e w6 ⟨rfl, hb6⟩))
      all_goals go_wp2_with fail
      all_goals go_roundw
      case rel =>
        exact ⟨j + 1, by go_num, hjl, sm_bel (W := w4) (g1 := g1) (i := j) (g2 := g2) (x := sx) (by assumption)⟩
      case measure => simp [intOf]; omega
    · have hje : j = ws.length := by omega
      subst hje
      have cl := live_c wr (hT.below hBW)
      go_wp2_with fail
      (with_reducible refine cl.mono ?_)
      rintro e w5 ⟨rfl, hb5⟩
      go_wp2
      go_ret
      exact ⟨rfl, hBW.trans (hb5.mono hBW.size)⟩
theorem tokenSame_walk (a0 : ByteArray) (W : World) (s0 : a0.size ≤ 140737488351232) (hT : Tabs W) {H : Type} (hk : Rows.uptoSmall H [DataW.lit (.string a0.data.toList)] = true) : Calls Tryd.prog 6 #[.string a0] W (Yes W) := by
  have h := same_w a0.data.toList W (upto1 hk) hT
  rw [bs_self] at h
  exact h
end Go.Proofs.YtfndedkcmnknkaaDoor
