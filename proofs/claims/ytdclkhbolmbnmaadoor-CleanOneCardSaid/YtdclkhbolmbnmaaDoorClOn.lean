/- clean: what is left of any batches, and where the last record of a key stands: the law's walk. No condition. -/
import Derived.Test.YtdclkhbolmbnmaaDoorClRc
import Derived.Test.YtdclkhbolmbnmaaDoorClFw
import Derived.Test.YtdclkhbolmbnmaaDoorClKm
import Derived.Test.YtdclkhbolmbnmaaDoorClBr
namespace Go.Proofs.YtdclkhbolmbnmaaDoor
open Go.RowKit Go.Maps Go.ChangeMaps Go.WideMaps
set_option linter.unusedVariables false
theorem told_one {z x : BX} (h : z.told = x.told) : z.1 = x.1 := by
  have := congrArg (fun q : BN × List Rec => q.1) h
  exact this
theorem few_told {L M : List BX} (h : M.map BX.told = L.map BX.told) (hf : FewL L) : FewL M := by
  refine ⟨by have := congrArg List.length h; rw [List.length_map, List.length_map] at this; rw [this]; exact hf.1, fun x hx => ?_⟩
  have h1 : x.told ∈ L.map BX.told := by rw [← h]; exact told_mem hx
  obtain ⟨z, hz, e⟩ := List.mem_map.1 h1
  have e1 : z.1 = x.1 := told_one e
  have e2 : z.2.1.map (·.1) = x.2.1.map (·.1) := congrArg Prod.snd e
  obtain ⟨⟨h3, h4⟩, h5, h6, h7⟩ := hf.2 z hz
  have hall : ∀ p : Rec → Prop, (∀ y ∈ z.2.1, p y.1) → ∀ y ∈ x.2.1, p y.1 := fun p hp y hy => by
    have h8 : y.1 ∈ z.2.1.map (·.1) := by rw [e2]; exact List.mem_map_of_mem hy
    obtain ⟨v, hv, e3⟩ := List.mem_map.1 h8
    rw [← e3]
    exact hp v hv
  have hlen : x.2.1.length = z.2.1.length := by have := congrArg List.length e2; rw [List.length_map, List.length_map] at this; exact this.symm
  exact ⟨⟨by rw [hlen]; exact h3, hall _ h4⟩, by rw [← e1]; exact h5, by rw [← e1]; exact h6, hall (fun r => 0 ≤ r.place ∧ r.place ≤ 1000) h7⟩
theorem told_fst {L M : List BX} (h : M.map BX.told = L.map BX.told) : M.map (·.1) = L.map (·.1) := by
  have := congrArg (List.map Prod.fst) h
  rw [List.map_map, List.map_map] at this
  exact this
theorem told_bxR {L M : List BX} (h : M.map BX.told = L.map BX.told) : M.map bxR = L.map bxR := by
  have := congrArg (List.map Prod.snd) h
  rw [List.map_map, List.map_map] at this
  exact this
theorem few_smr {L : List BX} (hf : FewL L) : ∀ x ∈ L, ∀ y ∈ x.2.1, SmR y.1 := fun x hx y hy => small_smr ((hf.2 x hx).1.2 y hy)
theorem told_all {L M : List BX} (h : M.map BX.told = L.map BX.told) {p : BN → Prop} (hp : ∀ x ∈ L, p x.1) : ∀ x ∈ M, p x.1 := fun x hx => by
  have h1 : x.told ∈ L.map BX.told := by rw [← h]; exact told_mem hx
  obtain ⟨z, hz, e⟩ := List.mem_map.1 h1
  have e1 : z.1 = x.1 := told_one e
  rw [← e1]
  exact hp z hz
/-- Latest of the same batches, the program's and the document's. -/
theorem latest_both {L M : List BX} {A B : Option Addr} {c d : Nat} {key : ByteArray} (h : M.map BX.told = L.map BX.told) (hf : FewL L) (hz : key.size ≤ 140737488351232) :
    ∃ (v : Int) (is : Bool), (∀ w, BsIn w B M → Calls Tryd.prog 10 #[.slice B M.length d, .string key] w (Good w (.tuple #[.int .i64 v, .bool is]))) ∧ (∀ w, BsIn w A L → Calls Tryd.prog 11 #[.slice A L.length c, .string key] w (Good w (.tuple #[.int .i64 v, .bool is]))) := by
  have hfm := few_told h hf
  have hkz : key.size ≤ maxLen := by unfold maxLen; omega
  have h50 : ∀ {N : List BX}, FewL N → ∀ x ∈ N, x.2.1.length ≤ 1000 := fun hn x hx => by have := (hn.2 x hx).1.1; omega
  have hky : ∀ {N : List BX}, FewL N → ∀ x ∈ N, ∀ y ∈ x.2.1, y.1.key.size ≤ maxLen := fun hn x hx y hy => by have := ((hn.2 x hx).1.2 y hy).2.1; unfold maxLen; omega
  have hbp : ∀ {N : List BX}, FewL N → ∀ x ∈ N, ∀ y ∈ x.2.1, Pr.i64B (x.1.base + y.1.place) := fun hn x hx y hy => by
    obtain ⟨_, h5, h6, h7⟩ := hn.2 x hx
    have := h7 y hy
    unfold Pr.i64B
    omega
  have hl1 : M.length ≤ 1000 := by have := hfm.1; omega
  have hl2 : L.length ≤ 1000 := by have := hf.1; omega
  have hb := told_bxR h
  cases ho : ofN (lastF (L.map bxR)) key.data.toList with
  | none =>
    refine ⟨0, false, fun w hw => latest_no M B d key w hw hl1 (h50 hfm) (hky hfm) hkz (by rw [hb]; exact ho), fun w hw => ?_⟩
    have := rlatest_c L A c key w hw hl2 (h50 hf) (hbp hf)
    rw [ofN_last] at ho
    rw [ho] at this
    exact this
  | some e =>
    have ho' : ofN (lastF (M.map bxR)) key.data.toList = some e := by rw [hb]; exact ho
    obtain ⟨i, j, x, y, he, hx, hy, _⟩ := last_split ho'
    subst he
    refine ⟨x.1.base + y.1.place, true, fun w hw => latest_yes M B d key w hw hl1 (h50 hfm) (hky hfm) hkz ho' hx hy (hbp hfm x (List.mem_of_getElem? hx) y (List.mem_of_getElem? hy)), fun w hw => ?_⟩
    have := rlatest_c L A c key w hw hl2 (h50 hf) (hbp hf)
    rw [ofN_last] at ho
    rw [ho] at this
    have e1 : (M.map BX.told)[i]? = some x.told := by rw [List.getElem?_map, hx]; rfl
    rw [h, List.getElem?_map] at e1
    cases hx2 : L[i]? with
    | none => rw [hx2] at e1; cases e1
    | some x2 =>
      rw [hx2] at e1
      have e2 : x2.told = x.told := by injection e1
      have e3 : x2.1 = x.1 := told_one e2
      have e4 : x2.2.1.map (·.1) = x.2.1.map (·.1) := congrArg Prod.snd e2
      have e5 : (x.2.1.map (·.1))[j]? = some y.1 := by rw [List.getElem?_map, hy]; rfl
      rw [← e4, List.getElem?_map] at e5
      cases hy2 : x2.2.1[j]? with
      | none => rw [hy2] at e5; cases e5
      | some y2 =>
        rw [hy2] at e5
        have e6 : y2.1 = y.1 := by injection e5
        have hv : valO L (some ⟨key.data.toList, i, j⟩) = (x.1.base + y.1.place, true) := by
          show (valE L _, true) = _
          rw [valE_at hx2 hy2, e3, e6]
        rw [hv] at this
        exact this
set_option maxHeartbeats 32000000 in
set_option maxRecDepth 100000 in
theorem cleanOne_walk (L : List BX) (A : Option Addr) (c : Nat) (upto before : Int) (key : ByteArray) (W : World) (hA : BsIn W A L) (hr : ∀ x ∈ L, x.2.1.length ≤ 140737488351232 ∧ Pr.i64B x.1.prod) (hz : key.size ≤ 140737488351232) (tab : True) :
    Calls Tryd.prog 3 #[.agg #[.slice A L.length c, .int .i64 upto, .int .i64 before, .string key]] W (Good W (.bool true)) := by
  have hb0 : Below W.heap.size W (W.alloc (.cells #[.slice A L.length c, .int .i64 upto, .int .i64 before, .string key] 24)) := (Below.refl _ _).alloc (Nat.le_refl _) _
  have hbx := Box.new W 24 #[.slice A L.length c, .int .i64 upto, .int .i64 before, .string key]
  have cf := fun w hb => few_c L A c w (hA.below hb) (fun x hx => (hr x hx).1)
  have HA := Lib.hid hA
  have HR := Lib.hid hr
  have HZ := Lib.hid hz
  have HB0 := Lib.hid hb0
  have cl := fun w => live_c w
  have CL := Lib.hid cl
  have CF := Lib.hid cf
  clear hA hr hz tab cl cf hb0
  have y0 := (hbx.cell 0).trans (show _ = some (.slice A L.length c) from rfl)
  have y1 := (hbx.cell 1).trans (show _ = some (.int .i64 upto) from rfl)
  have y2 := (hbx.cell 2).trans (show _ = some (.int .i64 before) from rfl)
  have y3 := (hbx.cell 3).trans (show _ = some (.string key) from rfl)
  clear hbx
  go_enter Tryd.func3, Tryd.ntmps3
  go_wp2_with fail
  go_quiet (fail)
  clear y0 y1 y2 y3
  have hbd : ∀ n, Below W.heap.size W ((W.alloc (.cells #[.slice A L.length c, .int .i64 upto, .int .i64 before, .string key] 24)).drewN n) := fun n => HB0.out.trans ⟨rfl, rfl, rfl, Nat.le_refl _, fun _ _ => rfl⟩
  have HB1 := Lib.hid hbd
  have cfw := fun n => CF.out _ (hbd n)
  clear hbd
  go_wp2_with fail
  (with_reducible refine (cfw _).mono ?_)
  rintro e w1 ⟨res, rfl, hfew, hb1⟩
  cases res with
  | false =>
    have HB := Lib.hid ((HB1.out _).trans (hb1.mono (HB1.out _).size))
    have cl := CL.out w1
    clear hfew cfw hb1
    go_wp2_with fail
    (with_reducible refine cl.mono ?_)
    rintro e w2 ⟨rfl, hb2⟩
    have HB2 := Lib.hid (HB.out.trans (hb2.mono HB.out.size))
    clear cl hb2
    go_wp2_with fail
    go_ret
    exact ⟨rfl, HB2.out⟩
  | true =>
    have HF := Lib.hid (hfew rfl)
    have hl8 : L.length ≤ 8 := HF.out.1
    have HB := Lib.hid ((HB1.out _).trans (hb1.mono (HB1.out _).size))
    clear cfw hfew hb1
    go_wp2_with fail
    go_loopw [7, 8] (fun l j wr => ∃ (k : Nat) (M : List BX) (B : Option Addr) (d : Nat), l = .slice B M.length d ∧ j = .int .i64 k ∧ k ≤ L.length ∧ M.length ≤ k ∧ M.map BX.told = (L.map BX.told).take k ∧ BtsI W wr (.slice B M.length d) M ∧ Below W.heap.size W wr) (fun _ j _ => L.length - (intOf j).toNat)
    case atStart => exact ⟨0, [], none, 0, rfl, rfl, Nat.zero_le _, Nat.zero_le _, rfl, BtsI.nil _ _, HB.out⟩
    case round =>
      obtain ⟨k, M, B, d, rfl, rfl, hk, hmk, hM, hS, hbw⟩ := hrel
      by_cases hkl : k < L.length
      · obtain ⟨x, hx⟩ : ∃ x, L[k]? = some x := ⟨_, List.getElem?_eq_getElem hkl⟩
        obtain ⟨b, off, rfl, hbl, hca⟩ := (HA.out.below hbw) (by omega)
        obtain ⟨⟨z0, z1, z2, z3, z4, z5⟩, hrs⟩ := hca k x hx
        have hxm := List.mem_of_getElem? hx
        have hs1 := (HF.out.2 x hxm).1
        have HM := Lib.hid hM
        have HS := Lib.hid (And.intro hS hbw)
        have HST : Hid ((L.map BX.told).take (k + 1) = (L.map BX.told).take k ++ [x.told]) := Lib.hid (by rw [List.take_add_one, List.getElem?_map, hx]; rfl)
        have cc := rcopy5_c x.1 x.2.1 x.2.2.1 x.2.2.2 wr hrs (by have := hs1.1; omega) (fun y hy => by have := (hs1.2 y hy).1; omega)
        have hki : (k : Int) < (L.length : Int) := by omega
        have hk0 : (0 : Int) ≤ (k : Int) := by omega
        obtain ⟨⟨base, span, prod, epoch, seq⟩, R, RA, rc⟩ := x
        unfold CopiedB bnC at cc
        dsimp only at *
        clear hS hca hx hrs hxm hM hbw hs1
        generalize hk6 : k * 6 = k6 at *
        go_wp2_with fail
        (with_reducible refine cc.mono ?_)
        rintro e w5 ⟨M5, A5, c5, hm5, rfl, hr5, hb5⟩
        have hsz5 := HS.out.2.size
        have hA6 : Below w5.heap.size w5 (w5.alloc (.cells #[.int .i64 base, .int .i64 span, .int .i64 prod, .int .i64 epoch, .int .i64 seq, .slice A5 M5.length c5] 29)) := (Below.refl _ _).alloc (Nat.le_refl _) _
        have hS6 := (HS.out.1.later hb5)
        have hr6 := (RowI.of (hr5.base hsz5))
        have hW6 := (HS.out.2.trans (hb5.mono hsz5))
        obtain ⟨A7, c7, w7, r7, hS7, hW7⟩ := hS6.app hW6 (y := (⟨base, span, prod, epoch, seq⟩, M5, A5, c5)) hr6 (by omega)
        have HS7 := Lib.hid (And.intro hS7 hW7)
        unfold bnC at r7
        clear cc hr5 hb5 hA6 hS6 hr6 hW6 hS7 hW7 hsz5 z0 z1 z2 z3 z4 z5 hbl
        go_wp2_with (at_builtin; refine wpList_append_run rfl (.tmp 32) (.tmp 38) 22 rfl _ _ _ rfl rfl r7 ?_)
        refine ⟨⟨k + 1, M ++ [(⟨base, span, prod, epoch, seq⟩, M5, A5, c5)], A7, c7, by rw [List.length_append]; rfl, by go_num, hkl, by rw [List.length_append]; show M.length + 1 ≤ _; omega, ?_, by rw [List.length_append]; exact HS7.out.1, HS7.out.2⟩, by simp [intOf]; omega⟩
        rw [HST.out, List.map_append, HM.out]
        show _ ++ [(_, M5.map (·.1))] = _
        rw [hm5]
        rfl
      · have hki : ¬ (k : Int) < (L.length : Int) := by omega
        have hM2 : M.map BX.told = L.map BX.told := by rw [hM, List.take_of_length_le (by rw [List.length_map]; omega)]
        have hml : M.length ≤ 8 := by omega
        have hfm := few_told hM2 HF.out
        have hbM := btsI_in hS hbw (few_smr hfm)
        have HBM := Lib.hid hbM
        have HBW := Lib.hid hbw
        have HM := Lib.hid hM2
        have HFM := Lib.hid hfm
        have cc := clean_c M B d upto before wr hbM (by omega) (fun x hx => by have := (hfm.2 x hx).1.1; omega) (fun x hx y hy => by have := ((hfm.2 x hx).1.2 y hy).2.1; unfold maxLen; omega) (fun x hx y hy => by have := ((hfm.2 x hx).1.2 y hy).1; omega) (told_all hM2 (p := fun b => Pr.i64B b.prod) (fun x hx => (HR.out x hx).2)) (fun x hx => by
          obtain ⟨_, h5, h6, h7⟩ := hfm.2 x hx
          unfold Pr.i64B
          omega)
        rw [hM2, told_fst hM2, told_bxR hM2] at cc
        obtain ⟨v, is, l1, l2⟩ := latest_both (A := A) (B := B) (c := c) (d := d) hM2 HF.out HZ.out
        have L1 := Lib.hid l1
        have L2 := Lib.hid l2
        clear hS hbw hM hM2 hfm hbM l1 l2
        go_wp2_with fail
        (with_reducible refine cc.mono ?_)
        rintro e w2 ⟨N, D, dn, hN, rfl, hbt, hb2⟩
        have HN := Lib.hid hN
        have hfit := cleaned_fit HF.out hN
        have HD := Lib.hid (And.intro (own_bsin hbt (fun x hx y hy => small_smr ((hfit.2 x hx).2 y hy))) hfit)
        have hbw2 := HBW.out.trans (hb2.mono HBW.out.size)
        have HB2 := Lib.hid (And.intro hb2 hbw2)
        have c1 := L1.out w2 (HBM.out.below hb2)
        clear cc hfit hN hbt hb2 hbw2
        go_wp2_with fail
        (with_reducible refine c1.mono ?_)
        rintro e w3 ⟨rfl, hb3⟩
        have hbw3 := HB2.out.2.trans (hb3.mono HB2.out.2.size)
        have HB3 := Lib.hid (And.intro hb3 hbw3)
        have c2 := L2.out w3 (HA.out.below hbw3)
        clear c1 hb3 hbw3
        go_wp2_with fail
        (with_reducible refine c2.mono ?_)
        rintro e w4 ⟨rfl, hb4⟩
        have hbw4 := HB3.out.2.trans (hb4.mono HB3.out.2.size)
        have HM4 := Lib.hid (((HBM.out.below HB2.out.1).below HB3.out.1).below hb4)
        have HD4 := Lib.hid ((HD.out.1.below HB3.out.1).below hb4)
        have HB4 := Lib.hid hbw4
        have cs := rsameAll5_c M L B A d c w4 HM4.out (HA.out.below hbw4) HM.out (by omega) (fun x hx => ⟨by have := (HFM.out.2 x hx).1.1; omega, fun y hy => by have := ((HFM.out.2 x hx).1.2 y hy).1; omega⟩)
        clear c2 hb4 hbw4
        go_wp2_with fail
        (with_reducible refine cs.mono ?_)
        rintro e w5 ⟨rfl, hb5⟩
        have hbw5 := HB4.out.trans (hb5.mono HB4.out.size)
        have HD5 := Lib.hid (HD4.out.below hb5)
        have HB5 := Lib.hid hbw5
        have hA5 := HA.out.below hbw5
        have cr := rclean_c L A c upto before w5 hA5 (by omega) (fun x hx => by have := (HF.out.2 x hx).1.1; omega) (fun x hx y hy => by have := ((HF.out.2 x hx).1.2 y hy).1; omega) (fun x hx => by
          obtain ⟨_, h5, h6, h7⟩ := HF.out.2 x hx
          unfold Pr.i64B
          omega)
        clear cs hb5 hbw5 hA5
        go_wp2_with fail
        (with_reducible refine cr.mono ?_)
        rintro e w6 ⟨N2, D2, dn2, hN2, rfl, hbt2, hb6⟩
        have hfit2 := cleaned_fit HF.out hN2
        have hbi2 := btsI_in hbt2 hb6 (fun x hx y hy => small_smr ((hfit2.2 x hx).2 y hy))
        have hbw6 := HB5.out.trans (hb6.mono HB5.out.size)
        have HB6 := Lib.hid hbw6
        have cs := rsameAll5_c N N2 D D2 dn dn2 w6 (HD5.out.below hb6) hbi2 (HN.out.trans hN2.symm) (by have := HD.out.2.1; omega) (fun x hx => ⟨by have := (HD.out.2.2 x hx).1; omega, fun y hy => by have := ((HD.out.2.2 x hx).2 y hy).1; omega⟩)
        clear cr hN2 hbt2 hb6 hfit2 hbi2 hbw6
        go_wp2_with fail
        (with_reducible refine cs.mono ?_)
        rintro e w7 ⟨rfl, hb7⟩
        have HB7 := Lib.hid (HB6.out.trans (hb7.mono HB6.out.size))
        have cl := CL.out w7
        clear cs hb7
        go_wp2_with fail
        (with_reducible refine cl.mono ?_)
        rintro e w8 ⟨rfl, hb8⟩
        have HB8 := Lib.hid (HB7.out.trans (hb8.mono HB7.out.size))
        clear cl hb8
        go_wp2_with fail
        go_ret
        exact ⟨rfl, HB8.out⟩
end Go.Proofs.YtdclkhbolmbnmaaDoor
