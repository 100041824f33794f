/- assign: whether lists rise, by contracts. No condition. -/
import Derived.Test.YtlokhhjhckiloaaGreatAsBase
namespace Go.Proofs.YtlokhhjhckiloaaGreat
open Go.RowKit
set_option linter.unusedVariables false
set_option maxHeartbeats 2000000 in
theorem riseS_c (L : List ByteArray) (A : Option Addr) (c : Nat) (W : World) (hH : StrIn W A L) (hl : L.length ≤ 140737488351232) :
    Calls Tryz.prog 132 #[.slice A L.length c, .func (.func 133) #[] #[]] W (Good W (.bool (risesB bL L))) := by
  go_enter Tryz.func132, Tryz.ntmps132
  have HH := Lib.hid hH
  clear hH
  go_wp2
  go_loopw [5] (fun j wr => ∃ k : Nat, j = .int .i64 ((k : Int) + 1) ∧ (k = 0 ∨ k < L.length) ∧ RisTo bL L k ∧ Below W.heap.size W wr) (fun j _ => L.length + 1 - (intOf j).toNat)
  case atStart => exact ⟨0, rfl, .inl rfl, fun i a b hi => absurd hi (Nat.not_lt_zero _), Below.refl _ _⟩
  case round =>
    obtain ⟨k, rfl, hle, hR, hB⟩ := hrel
    by_cases hk : k + 1 < L.length
    · have hL := HH.out.below hB
      have e0 : L[k]? = some L[k] := List.getElem?_eq_getElem (by omega)
      have e1 : L[k + 1]? = some L[k + 1] := List.getElem?_eq_getElem hk
      obtain ⟨b, off, rfl, hlt, hc⟩ := hL (by omega)
      have c0 := hc k _ e0
      have c1 := hc (k + 1) _ e1
      skip
      have HS := Lib.hid (hR.succ e0 e1)
      have HN := Lib.hid (rises_not (lt := bL) e0 e1)
      have hki : ((k : Int) + 1) < (L.length : Int) := by omega
      have hk0 : (0 : Int) ≤ (k : Int) := by omega
      have hk1 : (k : Int) < (L.length : Int) := by omega
      have hw : IntKind.i64.wrap ((k : Int) + 1 - 1) = (k : Int) := by rw [IntKind.wrap_i64]; omega
      have hw2 : IntKind.i64.wrap (k : Int) = (k : Int) := by rw [IntKind.wrap_i64]; omega
      have hk2 : (0 : Int) ≤ (k : Int) + 1 := by omega
      have hk3 : ((k : Int) + 1).toNat = k + 1 := by omega
      have HB := Lib.hid hB
      have cc := fun w => blt_c L[k] L[k + 1] w
      clear hR hB hc hL
      generalize L[k] = x0 at *
      generalize L[k + 1] = x1 at *
      skip
      go_wp2_with fail
      have hS := And.intro c0 (And.intro c1 hlt)
      clear c0 c1
      go_region_held3 (fun w => w.cell? ⟨b, off + k, none⟩ = some (.string x0) ∧ w.cell? ⟨b, off + (k + 1), none⟩ = some (.string x1) ∧ b < w.heap.size) (first | exact cell2_later hS ((Below.refl _ _).drew) | exact cell2_later (by assumption) (by assumption)) (first | ((with_reducible refine (cc _).mono ?_); rintro e w1 ⟨rfl, hb1⟩))
      all_goals
        cases hd : bL x0 x1 with
        | true =>
          have HD := Lib.hid (HS.out hd)
          clear hd
          go_wp2_with fail
          go_roundw
          case rel => exact ⟨k + 1, by go_num, .inr (by omega), HD.out, (HB.out.trans (((Below.refl _ _).drew).mono HB.out.size)).trans (hb1.mono HB.out.size)⟩
          case measure => simp [intOf]; omega
        | false =>
          have HD := Lib.hid (HN.out hd)
          clear hd
          go_wp2_with fail
          go_ret
          exact ⟨by rw [HD.out]; rfl, (HB.out.trans (((Below.refl _ _).drew).mono HB.out.size)).trans (hb1.mono HB.out.size)⟩
    · have HA : Hid (risesB bL L = true) := Lib.hid (hR.all (by omega))
      have hki : ¬ ((k : Int) + 1) < (L.length : Int) := by omega
      clear hR
      go_wp2_with fail
      go_ret
      exact ⟨by rw [HA.out]; rfl, hB⟩
set_option maxHeartbeats 2000000 in
theorem riseM_c (L : List SX) (A : Option Addr) (c : Nat) (W : World) (hH : SbIn W A L) (hl : L.length ≤ 140737488351232) :
    Calls Tryz.prog 135 #[.slice A L.length c, .func (.func 136) #[] #[]] W (Good W (.bool (risesB sL L))) := by
  go_enter Tryz.func135, Tryz.ntmps135
  have HH := Lib.hid hH
  clear hH
  go_wp2
  go_loopw [5] (fun j wr => ∃ k : Nat, j = .int .i64 ((k : Int) + 1) ∧ (k = 0 ∨ k < L.length) ∧ RisTo sL L k ∧ Below W.heap.size W wr) (fun j _ => L.length + 1 - (intOf j).toNat)
  case atStart => exact ⟨0, rfl, .inl rfl, fun i a b hi => absurd hi (Nat.not_lt_zero _), Below.refl _ _⟩
  case round =>
    obtain ⟨k, rfl, hle, hR, hB⟩ := hrel
    by_cases hk : k + 1 < L.length
    · have hL := HH.out.below hB
      have e0 : L[k]? = some L[k] := List.getElem?_eq_getElem (by omega)
      have e1 : L[k + 1]? = some L[k + 1] := List.getElem?_eq_getElem hk
      obtain ⟨b, off, rfl, hlt, hc⟩ := hL (by omega)
      have c0 := hc k _ e0
      have c1 := hc (k + 1) _ e1
      obtain ⟨⟨c00, c01⟩, _⟩ := c0
      obtain ⟨⟨c10, c11⟩, _⟩ := c1
      have HS := Lib.hid (hR.succ e0 e1)
      have HN := Lib.hid (rises_not (lt := sL) e0 e1)
      have hki : ((k : Int) + 1) < (L.length : Int) := by omega
      have hk0 : (0 : Int) ≤ (k : Int) := by omega
      have hk1 : (k : Int) < (L.length : Int) := by omega
      have hw : IntKind.i64.wrap ((k : Int) + 1 - 1) = (k : Int) := by rw [IntKind.wrap_i64]; omega
      have hw2 : IntKind.i64.wrap (k : Int) = (k : Int) := by rw [IntKind.wrap_i64]; omega
      have hk2 : (0 : Int) ≤ (k : Int) + 1 := by omega
      have hk3 : ((k : Int) + 1).toNat = k + 1 := by omega
      have HB := Lib.hid hB
      have cc := fun w => slt_c L[k] L[k + 1] w
      clear hR hB hc hL
      generalize L[k] = x0 at *
      generalize L[k + 1] = x1 at *
      unfold sbV sbC at cc
      go_wp2_with fail
      have hS := And.intro c00 (And.intro c01 (And.intro c10 (And.intro c11 hlt)))
      clear c00 c01 c10 c11
      go_region_held3 (fun w => w.cell? ⟨b, off + k * 2, none⟩ = some (.int .i64 x0.1) ∧ w.cell? ⟨b, off + k * 2 + 1, none⟩ = some (.slice x0.2.2.1 x0.2.1.length x0.2.2.2) ∧ w.cell? ⟨b, off + (k + 1) * 2, none⟩ = some (.int .i64 x1.1) ∧ w.cell? ⟨b, off + (k + 1) * 2 + 1, none⟩ = some (.slice x1.2.2.1 x1.2.1.length x1.2.2.2) ∧ b < w.heap.size) (first | exact cell4_later hS ((Below.refl _ _).drew) | exact cell4_later (by assumption) (by assumption)) (first | ((with_reducible refine (cc _).mono ?_); rintro e w1 ⟨rfl, hb1⟩))
      all_goals
        cases hd : sL x0 x1 with
        | true =>
          have HD := Lib.hid (HS.out hd)
          clear hd
          go_wp2_with fail
          go_roundw
          case rel => exact ⟨k + 1, by go_num, .inr (by omega), HD.out, (HB.out.trans (((Below.refl _ _).drew).mono HB.out.size)).trans (hb1.mono HB.out.size)⟩
          case measure => simp [intOf]; omega
        | false =>
          have HD := Lib.hid (HN.out hd)
          clear hd
          go_wp2_with fail
          go_ret
          exact ⟨by rw [HD.out]; rfl, (HB.out.trans (((Below.refl _ _).drew).mono HB.out.size)).trans (hb1.mono HB.out.size)⟩
    · have HA : Hid (risesB sL L = true) := Lib.hid (hR.all (by omega))
      have hki : ¬ ((k : Int) + 1) < (L.length : Int) := by omega
      clear hR
      go_wp2_with fail
      go_ret
      exact ⟨by rw [HA.out]; rfl, hB⟩
set_option maxHeartbeats 2000000 in
theorem riseT_c (L : List TX) (A : Option Addr) (c : Nat) (W : World) (hH : TpIn W A L) (hl : L.length ≤ 140737488351232) :
    Calls Tryz.prog 139 #[.slice A L.length c, .func (.func 140) #[] #[]] W (Good W (.bool (risesB tL L))) := by
  go_enter Tryz.func139, Tryz.ntmps139
  have HH := Lib.hid hH
  clear hH
  go_wp2
  go_loopw [5] (fun j wr => ∃ k : Nat, j = .int .i64 ((k : Int) + 1) ∧ (k = 0 ∨ k < L.length) ∧ RisTo tL L k ∧ Below W.heap.size W wr) (fun j _ => L.length + 1 - (intOf j).toNat)
  case atStart => exact ⟨0, rfl, .inl rfl, fun i a b hi => absurd hi (Nat.not_lt_zero _), Below.refl _ _⟩
  case round =>
    obtain ⟨k, rfl, hle, hR, hB⟩ := hrel
    by_cases hk : k + 1 < L.length
    · have hL := HH.out.below hB
      have e0 : L[k]? = some L[k] := List.getElem?_eq_getElem (by omega)
      have e1 : L[k + 1]? = some L[k + 1] := List.getElem?_eq_getElem hk
      obtain ⟨b, off, rfl, hlt, hc⟩ := hL (by omega)
      have c0 := hc k _ e0
      have c1 := hc (k + 1) _ e1
      obtain ⟨c00, c01⟩ := c0
      obtain ⟨c10, c11⟩ := c1
      have HS := Lib.hid (hR.succ e0 e1)
      have HN := Lib.hid (rises_not (lt := tL) e0 e1)
      have hki : ((k : Int) + 1) < (L.length : Int) := by omega
      have hk0 : (0 : Int) ≤ (k : Int) := by omega
      have hk1 : (k : Int) < (L.length : Int) := by omega
      have hw : IntKind.i64.wrap ((k : Int) + 1 - 1) = (k : Int) := by rw [IntKind.wrap_i64]; omega
      have hw2 : IntKind.i64.wrap (k : Int) = (k : Int) := by rw [IntKind.wrap_i64]; omega
      have hk2 : (0 : Int) ≤ (k : Int) + 1 := by omega
      have hk3 : ((k : Int) + 1).toNat = k + 1 := by omega
      have HB := Lib.hid hB
      have cc := fun w => tlt_c L[k] L[k + 1] w
      clear hR hB hc hL
      generalize L[k] = x0 at *
      generalize L[k + 1] = x1 at *
      unfold tpV tpC at cc
      go_wp2_with fail
      have hS := And.intro c00 (And.intro c01 (And.intro c10 (And.intro c11 hlt)))
      clear c00 c01 c10 c11
      go_region_held3 (fun w => w.cell? ⟨b, off + k * 2, none⟩ = some (.string x0.1) ∧ w.cell? ⟨b, off + k * 2 + 1, none⟩ = some (.int .i64 x0.2) ∧ w.cell? ⟨b, off + (k + 1) * 2, none⟩ = some (.string x1.1) ∧ w.cell? ⟨b, off + (k + 1) * 2 + 1, none⟩ = some (.int .i64 x1.2) ∧ b < w.heap.size) (first | exact cell4_later hS ((Below.refl _ _).drew) | exact cell4_later (by assumption) (by assumption)) (first | ((with_reducible refine (cc _).mono ?_); rintro e w1 ⟨rfl, hb1⟩))
      all_goals
        cases hd : tL x0 x1 with
        | true =>
          have HD := Lib.hid (HS.out hd)
          clear hd
          go_wp2_with fail
          go_roundw
          case rel => exact ⟨k + 1, by go_num, .inr (by omega), HD.out, (HB.out.trans (((Below.refl _ _).drew).mono HB.out.size)).trans (hb1.mono HB.out.size)⟩
          case measure => simp [intOf]; omega
        | false =>
          have HD := Lib.hid (HN.out hd)
          clear hd
          go_wp2_with fail
          go_ret
          exact ⟨by rw [HD.out]; rfl, (HB.out.trans (((Below.refl _ _).drew).mono HB.out.size)).trans (hb1.mono HB.out.size)⟩
    · have HA : Hid (risesB tL L = true) := Lib.hid (hR.all (by omega))
      have hki : ¬ ((k : Int) + 1) < (L.length : Int) := by omega
      clear hR
      go_wp2_with fail
      go_ret
      exact ⟨by rw [HA.out]; rfl, hB⟩
end Go.Proofs.YtlokhhjhckiloaaGreat
