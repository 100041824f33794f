/- Merged texts. What each proves is told at its head. -/
import Derived.Test.YtdclkhbolmbnmaaDoorClRc
import Derived.Test.YtdclkhbolmbnmaaDoorClFw
import Derived.Test.YtdclkhbolmbnmaaDoorClKm
import Derived.Test.YtdclkhbolmbnmaaDoorClBr
import Derived.Test.YtdclkhbolmbnmaaDoorClCk
/- clean: what is left of any batches, and where the last record of a key stands: the law's walk. No condition. -/
namespace Go.Proofs.YtdclkhbolmbnmaaDoor
open Go.RowKit Go.Maps Go.ChangeMaps Go.WideMaps
set_option linter.unusedVariables false
theorem told_one {z x : BX} (h : z.told = x.told) : z.1 = x.1 := by
  have := congrArg (fun q : BN × List Rec => q.1) h
  exact this
theorem few_told {L M : List BX} (h : M.map BX.told = L.map BX.told) (hf : FewL L) : FewL M := by
  refine ⟨by have := congrArg List.length h; rw [List.length_map, List.length_map] at this; rw [this]; exact hf.1, fun x hx => ?_⟩
  have h1 : x.told ∈ L.map BX.told := by rw [← h]; exact told_mem hx
  obtain ⟨z, hz, e⟩ := List.mem_map.1 h1
  have e1 : z.1 = x.1 := told_one e
  have e2 : z.2.1.map (·.1) = x.2.1.map (·.1) := congrArg Prod.snd e
  obtain ⟨⟨h3, h4⟩, h5, h6, h7⟩ := hf.2 z hz
  have hall : ∀ p : Rec → Prop, (∀ y ∈ z.2.1, p y.1) → ∀ y ∈ x.2.1, p y.1 := fun p hp y hy => by
    have h8 : y.1 ∈ z.2.1.map (·.1) := by rw [e2]; exact List.mem_map_of_mem hy
    obtain ⟨v, hv, e3⟩ := List.mem_map.1 h8
    rw [← e3]
    exact hp v hv
  have hlen : x.2.1.length = z.2.1.length := by have := congrArg List.length e2; rw [List.length_map, List.length_map] at this; exact this.symm
  exact ⟨⟨by rw [hlen]; exact h3, hall _ h4⟩, by rw [← e1]; exact h5, by rw [← e1]; exact h6, hall (fun r => 0 ≤ r.place ∧ r.place ≤ 1000) h7⟩
theorem told_fst {L M : List BX} (h : M.map BX.told = L.map BX.told) : M.map (·.1) = L.map (·.1) := by
  have := congrArg (List.map Prod.fst) h
  rw [List.map_map, List.map_map] at this
  exact this
theorem told_bxR {L M : List BX} (h : M.map BX.told = L.map BX.told) : M.map bxR = L.map bxR := by
  have := congrArg (List.map Prod.snd) h
  rw [List.map_map, List.map_map] at this
  exact this
theorem few_smr {L : List BX} (hf : FewL L) : ∀ x ∈ L, ∀ y ∈ x.2.1, SmR y.1 := fun x hx y hy => small_smr ((hf.2 x hx).1.2 y hy)
theorem told_all {L M : List BX} (h : M.map BX.told = L.map BX.told) {p : BN → Prop} (hp : ∀ x ∈ L, p x.1) : ∀ x ∈ M, p x.1 := fun x hx => by
  have h1 : x.told ∈ L.map BX.told := by rw [← h]; exact told_mem hx
  obtain ⟨z, hz, e⟩ := List.mem_map.1 h1
  have e1 : z.1 = x.1 := told_one e
  rw [← e1]
  exact hp z hz
/-- Latest of the same batches, the program's and the document's. -/
theorem latest_both {L M : List BX} {A B : Option Addr} {c d : Nat} {key : ByteArray} (h : M.map BX.told = L.map BX.told) (hf : FewL L) (hz : key.size ≤ 140737488351232) :
    ∃ (v : Int) (is : Bool), (∀ w, BsIn w B M → Calls Tryd.prog 10 #[.slice B M.length d, .string key] w (Good w (.tuple #[.int .i64 v, .bool is]))) ∧ (∀ w, BsIn w A L → Calls Tryd.prog 11 #[.slice A L.length c, .string key] w (Good w (.tuple #[.int .i64 v, .bool is]))) := by
  have hfm := few_told h hf
  have hkz : key.size ≤ maxLen := by unfold maxLen; omega
  have h50 : ∀ {N : List BX}, FewL N → ∀ x ∈ N, x.2.1.length ≤ 1000 := fun hn x hx => by have := (hn.2 x hx).1.1; omega
  have hky : ∀ {N : List BX}, FewL N → ∀ x ∈ N, ∀ y ∈ x.2.1, y.1.key.size ≤ maxLen := fun hn x hx y hy => by have := ((hn.2 x hx).1.2 y hy).2.1; unfold maxLen; omega
  have hbp : ∀ {N : List BX}, FewL N → ∀ x ∈ N, ∀ y ∈ x.2.1, Pr.i64B (x.1.base + y.1.place) := fun hn x hx y hy => by
    obtain ⟨_, h5, h6, h7⟩ := hn.2 x hx
    have := h7 y hy
    unfold Pr.i64B
    omega
  have hl1 : M.length ≤ 1000 := by have := hfm.1; omega
  have hl2 : L.length ≤ 1000 := by have := hf.1; omega
  have hb := told_bxR h
  cases ho : ofN (lastF (L.map bxR)) key.data.toList with
  | none =>
    refine ⟨0, false, fun w hw => latest_no M B d key w hw hl1 (h50 hfm) (hky hfm) hkz (by rw [hb]; exact ho), fun w hw => ?_⟩
    have := rlatest_c L A c key w hw hl2 (h50 hf) (hbp hf)
    rw [ofN_last] at ho
    rw [ho] at this
    exact this
  | some e =>
    have ho' : ofN (lastF (M.map bxR)) key.data.toList = some e := by rw [hb]; exact ho
    obtain ⟨i, j, x, y, he, hx, hy, _⟩ := last_split ho'
    subst he
    refine ⟨x.1.base + y.1.place, true, fun w hw => latest_yes M B d key w hw hl1 (h50 hfm) (hky hfm) hkz ho' hx hy (hbp hfm x (List.mem_of_getElem? hx) y (List.mem_of_getElem? hy)), fun w hw => ?_⟩
    have := rlatest_c L A c key w hw hl2 (h50 hf) (hbp hf)
    rw [ofN_last] at ho
    rw [ho] at this
    have e1 : (M.map BX.told)[i]? = some x.told := by rw [List.getElem?_map, hx]; rfl
    rw [h, List.getElem?_map] at e1
    cases hx2 : L[i]? with
    | none => rw [hx2] at e1; cases e1
    | some x2 =>
      rw [hx2] at e1
      have e2 : x2.told = x.told := by injection e1
      have e3 : x2.1 = x.1 := told_one e2
      have e4 : x2.2.1.map (·.1) = x.2.1.map (·.1) := congrArg Prod.snd e2
      have e5 : (x.2.1.map (·.1))[j]? = some y.1 := by rw [List.getElem?_map, hy]; rfl
      rw [← e4, List.getElem?_map] at e5
      cases hy2 : x2.2.1[j]? with
      | none => rw [hy2] at e5; cases e5
      | some y2 =>
        rw [hy2] at e5
        have e6 : y2.1 = y.1 := by injection e5
        have hv : valO L (some ⟨key.data.toList, i, j⟩) = (x.1.base + y.1.place, true) := by
          show (valE L _, true) = _
          rw [valE_at hx2 hy2, e3, e6]
        rw [hv] at this
        exact this
set_option maxHeartbeats 32000000 in
set_option maxRecDepth 100000 in
theorem cleanOne_walk (L : List BX) (A : Option Addr) (c : Nat) (upto before : Int) (key : ByteArray) (W : World) (hA : BsIn W A L) (hr : ∀ x ∈ L, x.2.1.length ≤ 140737488351232 ∧ Pr.i64B x.1.prod) (hz : key.size ≤ 140737488351232) (tab : True) :
    Calls Tryd.prog 3 #[.agg #[.slice A L.length c, .int .i64 upto, .int .i64 before, .string key]] W (Good W (.bool true)) := by
  have hb0 : Below W.heap.size W (W.alloc (.cells #[.slice A L.length c, .int .i64 upto, .int .i64 before, .string key] 24)) := (Below.refl _ _).alloc (Nat.le_refl _) _
  have hbx := Box.new W 24 #[.slice A L.length c, .int .i64 upto, .int .i64 before, .string key]
  have cf := fun w hb => few_c L A c w (hA.below hb) (fun x hx => (hr x hx).1)
  have HA := Lib.hid hA
  have HR := Lib.hid hr
  have HZ := Lib.hid hz
  have HB0 := Lib.hid hb0
  have cl := fun w => live_c w
  have CL := Lib.hid cl
  have CF := Lib.hid cf
  clear hA hr hz tab cl cf hb0
  have y0 := (hbx.cell 0).trans (show _ = some (.slice A L.length c) from rfl)
  have y1 := (hbx.cell 1).trans (show _ = some (.int .i64 upto) from rfl)
  have y2 := (hbx.cell 2).trans (show _ = some (.int .i64 before) from rfl)
  have y3 := (hbx.cell 3).trans (show _ = some (.string key) from rfl)
  clear hbx
  go_enter Tryd.func3, Tryd.ntmps3
  go_wp2_with fail
  go_quiet (fail)
  clear y0 y1 y2 y3
  have hbd : ∀ n, Below W.heap.size W ((W.alloc (.cells #[.slice A L.length c, .int .i64 upto, .int .i64 before, .string key] 24)).drewN n) := fun n => HB0.out.trans ⟨rfl, rfl, rfl, Nat.le_refl _, fun _ _ => rfl⟩
  have HB1 := Lib.hid hbd
  have cfw := fun n => CF.out _ (hbd n)
  clear hbd
  go_wp2_with fail
  (with_reducible refine (cfw _).mono ?_)
  rintro e w1 ⟨res, rfl, hfew, hb1⟩
  cases res with
  | false =>
    have HB := Lib.hid ((HB1.out _).trans (hb1.mono (HB1.out _).size))
    have cl := CL.out w1
    clear hfew cfw hb1
    go_wp2_with fail
    (with_reducible refine cl.mono ?_)
    rintro e w2 ⟨rfl, hb2⟩
    have HB2 := Lib.hid (HB.out.trans (hb2.mono HB.out.size))
    clear cl hb2
    go_wp2_with fail
    go_ret
    exact ⟨rfl, HB2.out⟩
  | true =>
    have HF := Lib.hid (hfew rfl)
    have hl8 : L.length ≤ 8 := HF.out.1
    have HB := Lib.hid ((HB1.out _).trans (hb1.mono (HB1.out _).size))
    clear cfw hfew hb1
    go_wp2_with fail
    go_loopw [7, 8] (fun l j wr => ∃ (k : Nat) (M : List BX) (B : Option Addr) (d : Nat), l = .slice B M.length d ∧ j = .int .i64 k ∧ k ≤ L.length ∧ M.length ≤ k ∧ M.map BX.told = (L.map BX.told).take k ∧ BtsI W wr (.slice B M.length d) M ∧ Below W.heap.size W wr) (fun _ j _ => L.length - (intOf j).toNat)
    case atStart => exact ⟨0, [], none, 0, rfl, rfl, Nat.zero_le _, Nat.zero_le _, rfl, BtsI.nil _ _, HB.out⟩
    case round =>
      obtain ⟨k, M, B, d, rfl, rfl, hk, hmk, hM, hS, hbw⟩ := hrel
      by_cases hkl : k < L.length
      · obtain ⟨x, hx⟩ : ∃ x, L[k]? = some x := ⟨_, List.getElem?_eq_getElem hkl⟩
        obtain ⟨b, off, rfl, hbl, hca⟩ := (HA.out.below hbw) (by omega)
        obtain ⟨⟨z0, z1, z2, z3, z4, z5⟩, hrs⟩ := hca k x hx
        have hxm := List.mem_of_getElem? hx
        have hs1 := (HF.out.2 x hxm).1
        have HM := Lib.hid hM
        have HS := Lib.hid (And.intro hS hbw)
        have HST : Hid ((L.map BX.told).take (k + 1) = (L.map BX.told).take k ++ [x.told]) := Lib.hid (by rw [List.take_add_one, List.getElem?_map, hx]; rfl)
        have cc := rcopy5_c x.1 x.2.1 x.2.2.1 x.2.2.2 wr hrs (by have := hs1.1; omega) (fun y hy => by have := (hs1.2 y hy).1; omega)
        have hki : (k : Int) < (L.length : Int) := by omega
        have hk0 : (0 : Int) ≤ (k : Int) := by omega
        obtain ⟨⟨base, span, prod, epoch, seq⟩, R, RA, rc⟩ := x
        unfold CopiedB bnC at cc
        dsimp only at *
        clear hS hca hx hrs hxm hM hbw hs1
        generalize hk6 : k * 6 = k6 at *
        go_wp2_with fail
        (with_reducible refine cc.mono ?_)
        rintro e w5 ⟨M5, A5, c5, hm5, rfl, hr5, hb5⟩
        have hsz5 := HS.out.2.size
        have hA6 : Below w5.heap.size w5 (w5.alloc (.cells #[.int .i64 base, .int .i64 span, .int .i64 prod, .int .i64 epoch, .int .i64 seq, .slice A5 M5.length c5] 29)) := (Below.refl _ _).alloc (Nat.le_refl _) _
        have hS6 := (HS.out.1.later hb5)
        have hr6 := (RowI.of (hr5.base hsz5))
        have hW6 := (HS.out.2.trans (hb5.mono hsz5))
        obtain ⟨A7, c7, w7, r7, hS7, hW7⟩ := hS6.app hW6 (y := (⟨base, span, prod, epoch, seq⟩, M5, A5, c5)) hr6 (by omega)
        have HS7 := Lib.hid (And.intro hS7 hW7)
        unfold bnC at r7
        clear cc hr5 hb5 hA6 hS6 hr6 hW6 hS7 hW7 hsz5 z0 z1 z2 z3 z4 z5 hbl
        go_wp2_with (at_builtin; refine wpList_append_run rfl (.tmp 32) (.tmp 38) 22 rfl _ _ _ rfl rfl r7 ?_)
        refine ⟨⟨k + 1, M ++ [(⟨base, span, prod, epoch, seq⟩, M5, A5, c5)], A7, c7, by rw [List.length_append]; rfl, by go_num, hkl, by rw [List.length_append]; show M.length + 1 ≤ _; omega, ?_, by rw [List.length_append]; exact HS7.out.1, HS7.out.2⟩, by simp [intOf]; omega⟩
        rw [HST.out, List.map_append, HM.out]
        show _ ++ [(_, M5.map (·.1))] = _
        rw [hm5]
        rfl
      · have hki : ¬ (k : Int) < (L.length : Int) := by omega
        have hM2 : M.map BX.told = L.map BX.told := by rw [hM, List.take_of_length_le (by rw [List.length_map]; omega)]
        have hml : M.length ≤ 8 := by omega
        have hfm := few_told hM2 HF.out
        have hbM := btsI_in hS hbw (few_smr hfm)
        have HBM := Lib.hid hbM
        have HBW := Lib.hid hbw
        have HM := Lib.hid hM2
        have HFM := Lib.hid hfm
        have cc := clean_c M B d upto before wr hbM (by omega) (fun x hx => by have := (hfm.2 x hx).1.1; omega) (fun x hx y hy => by have := ((hfm.2 x hx).1.2 y hy).2.1; unfold maxLen; omega) (fun x hx y hy => by have := ((hfm.2 x hx).1.2 y hy).1; omega) (told_all hM2 (p := fun b => Pr.i64B b.prod) (fun x hx => (HR.out x hx).2)) (fun x hx => by
          obtain ⟨_, h5, h6, h7⟩ := hfm.2 x hx
          unfold Pr.i64B
          omega)
        rw [hM2, told_fst hM2, told_bxR hM2] at cc
        obtain ⟨v, is, l1, l2⟩ := latest_both (A := A) (B := B) (c := c) (d := d) hM2 HF.out HZ.out
        have L1 := Lib.hid l1
        have L2 := Lib.hid l2
        clear hS hbw hM hM2 hfm hbM l1 l2
        go_wp2_with fail
        (with_reducible refine cc.mono ?_)
        rintro e w2 ⟨N, D, dn, hN, rfl, hbt, hb2⟩
        have HN := Lib.hid hN
        have hfit := cleaned_fit HF.out hN
        have HD := Lib.hid (And.intro (own_bsin hbt (fun x hx y hy => small_smr ((hfit.2 x hx).2 y hy))) hfit)
        have hbw2 := HBW.out.trans (hb2.mono HBW.out.size)
        have HB2 := Lib.hid (And.intro hb2 hbw2)
        have c1 := L1.out w2 (HBM.out.below hb2)
        clear cc hfit hN hbt hb2 hbw2
        go_wp2_with fail
        (with_reducible refine c1.mono ?_)
        rintro e w3 ⟨rfl, hb3⟩
        have hbw3 := HB2.out.2.trans (hb3.mono HB2.out.2.size)
        have HB3 := Lib.hid (And.intro hb3 hbw3)
        have c2 := L2.out w3 (HA.out.below hbw3)
        clear c1 hb3 hbw3
        go_wp2_with fail
        (with_reducible refine c2.mono ?_)
        rintro e w4 ⟨rfl, hb4⟩
        have hbw4 := HB3.out.2.trans (hb4.mono HB3.out.2.size)
        have HM4 := Lib.hid (((HBM.out.below HB2.out.1).below HB3.out.1).below hb4)
        have HD4 := Lib.hid ((HD.out.1.below HB3.out.1).below hb4)
        have HB4 := Lib.hid hbw4
        have cs := rsameAll5_c M L B A d c w4 HM4.out (HA.out.below hbw4) HM.out (by omega) (fun x hx => ⟨by have := (HFM.out.2 x hx).1.1; omega, fun y hy => by have := ((HFM.out.2 x hx).1.2 y hy).1; omega⟩)
        clear c2 hb4 hbw4
        go_wp2_with fail
        (with_reducible refine cs.mono ?_)
        rintro e w5 ⟨rfl, hb5⟩
        have hbw5 := HB4.out.trans (hb5.mono HB4.out.size)
        have HD5 := Lib.hid (HD4.out.below hb5)
        have HB5 := Lib.hid hbw5
        have hA5 := HA.out.below hbw5
        have cr := rclean_c L A c upto before w5 hA5 (by omega) (fun x hx => by have := (HF.out.2 x hx).1.1; omega) (fun x hx y hy => by have := ((HF.out.2 x hx).1.2 y hy).1; omega) (fun x hx => by
          obtain ⟨_, h5, h6, h7⟩ := HF.out.2 x hx
          unfold Pr.i64B
          omega)
        clear cs hb5 hbw5 hA5
        go_wp2_with fail
        (with_reducible refine cr.mono ?_)
        rintro e w6 ⟨N2, D2, dn2, hN2, rfl, hbt2, hb6⟩
        have hfit2 := cleaned_fit HF.out hN2
        have hbi2 := btsI_in hbt2 hb6 (fun x hx y hy => small_smr ((hfit2.2 x hx).2 y hy))
        have hbw6 := HB5.out.trans (hb6.mono HB5.out.size)
        have HB6 := Lib.hid hbw6
        have cs := rsameAll5_c N N2 D D2 dn dn2 w6 (HD5.out.below hb6) hbi2 (HN.out.trans hN2.symm) (by have := HD.out.2.1; omega) (fun x hx => ⟨by have := (HD.out.2.2 x hx).1; omega, fun y hy => by have := ((HD.out.2.2 x hx).2 y hy).1; omega⟩)
        clear cr hN2 hbt2 hb6 hfit2 hbi2 hbw6
        go_wp2_with fail
        (with_reducible refine cs.mono ?_)
        rintro e w7 ⟨rfl, hb7⟩
        have HB7 := Lib.hid (HB6.out.trans (hb7.mono HB6.out.size))
        have cl := CL.out w7
        clear cs hb7
        go_wp2_with fail
        (with_reducible refine cl.mono ?_)
        rintro e w8 ⟨rfl, hb8⟩
        have HB8 := Lib.hid (HB7.out.trans (hb8.mono HB7.out.size))
        clear cl hb8
        go_wp2_with fail
        go_ret
        exact ⟨rfl, HB8.out⟩
end Go.Proofs.YtdclkhbolmbnmaaDoor
/- clean: the law's row of batches, one behind the other, and what stands at a place: by contracts. No condition but that they are few. -/
namespace Go.Proofs.YtdclkhbolmbnmaaDoor
open Go.RowKit Go.Maps Go.ChangeMaps Go.WideMaps
set_option linter.unusedVariables false
theorem find_result {w : World} (g : Nat) {v0 v1 v2 v3 v4 v5 v6 : Value} {b : Bool} (h : Box w g 39 #[v0, v1, v2, v3, v4, v5, v6]) (tmps : Array Value) (ht : (tmps[4]?).getD undef = .pointer (some ⟨g, 0, none⟩)) (hb : (tmps[5]?).getD undef = .bool b) :
    (results Tryd.f15 tmps).run Tryd.prog w = .ok (.tuple #[.agg #[v0, v1, v2, v3, v4, v5, v6], .bool b]) w := by
  have c0 := (h.cell 0).trans (show _ = some v0 from rfl)
  have c1 := (h.cell 1).trans (show _ = some v1 from rfl)
  have c2 := (h.cell 2).trans (show _ = some v2 from rfl)
  have c3 := (h.cell 3).trans (show _ = some v3 from rfl)
  have c4 := (h.cell 4).trans (show _ = some v4 from rfl)
  have c5 := (h.cell 5).trans (show _ = some v5 from rfl)
  have c6 := (h.cell 6).trans (show _ = some v6 from rfl)
  simp [results, Tryd.results15, go_sem, ht, hb, c0, c1, c2, c3, c4, c5, c6]
def GotF (W : World) (N : List BR) (at_ : Int) (en : Ending) (w' : World) : Prop := ∃ (r : Rec) (A : Option Addr) (c : Nat) (b : Bool), en = .returned (.tuple #[recV r A c, .bool b]) ∧ Below W.heap.size W w' ∧ (∀ p, findN N at_ = some p → b = true ∧ r = p.2) ∧ (findN N at_ = none → b = false)
def zRec : Rec := ⟨0, 0, false, ⟨#[]⟩, false, ⟨#[]⟩, []⟩
def zC : Array Value := #[.int .i64 0, .int .i64 0, .bool false, .string ⟨#[]⟩, .bool false, .string ⟨#[]⟩, .slice none 0 0]
structure FiS (W : World) (S : List (Int × Rec)) (at_ : Int) (w : World) : Prop where
  box : Box w W.heap.size 39 zC
  bel : Below W.heap.size W w
  none : ∀ p ∈ S, p.1 ≠ at_
theorem FiS.later {W w w' : World} {S : List (Int × Rec)} {at_ : Int} (h : FiS W S at_ w) (hb : Below w.heap.size w w') : FiS W S at_ w' := ⟨h.box.later hb, h.bel.trans (hb.mono h.bel.size), h.none⟩
theorem FiS.drew {W w : World} {S : List (Int × Rec)} {at_ : Int} (h : FiS W S at_ w) (n : Nat) : FiS W S at_ (w.drewN n) := ⟨h.box.drewN n, h.bel.trans ⟨rfl, rfl, rfl, Nat.le_refl _, fun _ _ => rfl⟩, h.none⟩
theorem find_app {S T : List (Int × Rec)} {at_ : Int} (h : ∀ p ∈ S, p.1 ≠ at_) : ((S ++ T).find? fun p => decide (p.1 = at_)) = T.find? fun p => decide (p.1 = at_) := by
  rw [List.find?_append]
  have : (S.find? fun p => decide (p.1 = at_)) = Option.none := List.find?_eq_none.2 (fun p hp => by simpa using h p hp)
  rw [this]
  rfl
def plcB (b : BN) (R : List Rec) : List (Int × Rec) := R.map fun r => (b.base + r.place, r)
theorem places_step {L : List BX} {k : Nat} {x : BX} (hx : L[k]? = some x) : placesN ((L.map BX.told).take (k + 1)) = placesN ((L.map BX.told).take k) ++ plcB x.1 (x.2.1.map (·.1)) := by
  rw [List.take_add_one, List.getElem?_map, hx]
  show placesN (_ ++ [x.told]) = _
  rw [placesN_app, placesN_cons, show placesN [] = [] from rfl, List.append_nil]
  rfl
theorem places_all {L : List BX} {k m : Nat} {x : BX} {y : RX} (hx : L[k]? = some x) (hy : x.2.1[m]? = some y) :
    placesN (L.map BX.told) = (placesN ((L.map BX.told).take k) ++ plcB x.1 ((x.2.1.map (·.1)).take m)) ++ (x.1.base + y.1.place, y.1) :: (plcB x.1 ((x.2.1.map (·.1)).drop (m + 1)) ++ placesN ((L.map BX.told).drop (k + 1))) := by
  have h1 : (L.map BX.told)[k]? = some x.told := by rw [List.getElem?_map, hx]; rfl
  have h2 : (x.2.1.map (·.1))[m]? = some y.1 := by rw [List.getElem?_map, hy]; rfl
  conv => lhs; rw [split_at h1]
  rw [placesN_app, placesN_cons]
  show _ ++ (plcB x.1 (x.2.1.map (·.1)) ++ _) = _
  conv => lhs; rw [split_at h2]
  unfold plcB
  rw [List.map_append, List.map_cons]
  simp only [List.append_assoc, List.cons_append]
theorem plcB_step {b : BN} {R : List Rec} {m : Nat} {r : Rec} (hr : R[m]? = some r) : plcB b (R.take (m + 1)) = plcB b (R.take m) ++ [(b.base + r.place, r)] := by
  rw [List.take_add_one, hr]
  unfold plcB
  rw [List.map_append]
  rfl
set_option maxHeartbeats 16000000 in
set_option maxRecDepth 100000 in
theorem find_c (L : List BX) (A : Option Addr) (c : Nat) (at_ : Int) (W : World) (h : BsIn W A L) (hl : L.length ≤ 1000) (hr : ∀ x ∈ L, x.2.1.length ≤ 1000) (hb : ∀ x ∈ L, ∀ y ∈ x.2.1, Pr.i64B (x.1.base + y.1.place)) :
    Calls Tryd.prog 15 #[.slice A L.length c, .int .i64 at_] W (GotF W (L.map BX.told) at_) := by
  have HA := Lib.hid h
  have HR := Lib.hid hr
  have HB := Lib.hid hb
  have H0 : Hid (FiS W (placesN ((L.map BX.told).take 0)) at_ (W.alloc (.cells zC 39))) := Lib.hid ⟨Box.new _ _ _, (Below.refl _ _).alloc (Nat.le_refl _) _, fun p hp => by cases hp⟩
  clear h hr hb
  go_enter Tryd.func15, Tryd.ntmps15
  go_wp2_with fail
  go_loopw [6] (fun i wr => ∃ k : Nat, i = .int .i64 k ∧ k ≤ L.length ∧ FiS W (placesN ((L.map BX.told).take k)) at_ wr) (fun i _ => L.length - (intOf i).toNat)
  case atStart => exact ⟨0, rfl, Nat.zero_le _, H0.out⟩
  case round =>
    obtain ⟨k, rfl, hk, hS⟩ := hrel
    clear H0
    by_cases hkl : k < L.length
    · obtain ⟨x, hx⟩ : ∃ x, L[k]? = some x := ⟨_, List.getElem?_eq_getElem hkl⟩
      have HXX := Lib.hid hx
      have HS := Lib.hid hS
      have hki : (k : Int) < (L.length : Int) := by omega
      have hk0 : (0 : Int) ≤ (k : Int) := by omega
      obtain ⟨b, off, rfl, hbl, hca⟩ := (HA.out.below hS.bel) (by omega)
      obtain ⟨⟨z0, z1, z2, z3, z4, z5⟩, hrs⟩ := hca k x hx
      have HST := Lib.hid (places_step hx)
      have hR := HR.out x (List.mem_of_getElem? hx)
      have HBB := Lib.hid (HB.out x (List.mem_of_getElem? hx))
      obtain ⟨⟨base, span, prod, epoch, seq⟩, R, RA, rc⟩ := x
      dsimp only at *
      clear hS hca hx hrs
      generalize hk6 : k * 6 = k6 at *
      go_wp2_with fail
      clear z0 z1 z2 z3 z4 z5 hbl
      go_loopw [7] (fun j w => ∃ m : Nat, j = .int .i64 m ∧ m ≤ R.length ∧ FiS W (placesN ((L.map BX.told).take k) ++ plcB ⟨base, span, prod, epoch, seq⟩ ((R.map (·.1)).take m)) at_ w) (fun j _ => R.length - (intOf j).toNat)
      case atStart => exact ⟨0, rfl, Nat.zero_le _, by rw [List.take_zero]; show FiS W (_ ++ []) at_ _; rw [List.append_nil]; exact HS.out⟩
      case round =>
        obtain ⟨m, rfl, hm, hF⟩ := hrel
        obtain ⟨_, _, e9, hbl9, hcb⟩ := (HA.out.below hF.bel) (by omega)
        obtain ⟨rfl, rfl⟩ : b = _ ∧ off = _ := by injection e9 with e9; injection e9 with e91 e92; exact ⟨e91, e92⟩
        obtain ⟨⟨z0, z1, z2, z3, z4, z5⟩, hrs2⟩ := hcb k _ HXX.out
        dsimp only at z0 z1 z2 z3 z4 z5 hrs2
        rw [hk6] at z0 z1 z2 z3 z4 z5
        have HF := Lib.hid hF
        by_cases hml : m < R.length
        · obtain ⟨y, hy⟩ : ∃ y, R[m]? = some y := ⟨_, List.getElem?_eq_getElem hml⟩
          obtain ⟨b3, off3, rfl, hbl3, hc3⟩ := hrs2 (by omega)
          obtain ⟨⟨p0, p1, p2, p3, p4, p5, p6⟩, _⟩ := hc3 m y hy
          have HY := Lib.hid (show plcB ⟨base, span, prod, epoch, seq⟩ ((R.map (·.1)).take (m + 1)) = _ from plcB_step (r := y.1) (by rw [List.getElem?_map, hy]; rfl))
          have HPA := Lib.hid (places_all HXX.out hy)
          have hmi : (m : Int) < (R.length : Int) := by omega
          have hm0 : (0 : Int) ≤ (m : Int) := by omega
          have hbb := HBB.out y (List.mem_of_getElem? hy)
          unfold Pr.i64B at hbb
          obtain ⟨hbb1, hbb2⟩ := hbb
          have x0 := (hF.box.cell 0).trans (show _ = some (.int .i64 0) from rfl)
          have x1 := (hF.box.cell 1).trans (show _ = some (.int .i64 0) from rfl)
          have x2 := (hF.box.cell 2).trans (show _ = some (.bool false) from rfl)
          have x3 := (hF.box.cell 3).trans (show _ = some (.string ⟨#[]⟩) from rfl)
          have x4 := (hF.box.cell 4).trans (show _ = some (.bool false) from rfl)
          have x5 := (hF.box.cell 5).trans (show _ = some (.string ⟨#[]⟩) from rfl)
          have x6 := (hF.box.cell 6).trans (show _ = some (.slice none 0 0) from rfl)
          have f0 := hF.box.frozen 0
          have f1 := hF.box.frozen 1
          have f2 := hF.box.frozen 2
          have f3 := hF.box.frozen 3
          have f4 := hF.box.frozen 4
          have f5 := hF.box.frozen 5
          have f6 := hF.box.frozen 6
          have hlt := hF.box.lt
          obtain ⟨⟨pl, tm, ba, ky, gn, va, hs⟩, hA2, hcc⟩ := y
          dsimp only at *
          clear hF hcb hc3 hy e9
          generalize hm7 : m * 7 = m7 at *
          by_cases hq : base + pl = at_
          · have hqe : (base + pl == at_) = true := by simpa using hq
            have HQ := Lib.hid hq
            clear hq
            go_wp2_with fail
            go_quiet (fail)
            go_wp2_with fail
            have hfd : findN (L.map BX.told) at_ = some (base + pl, ⟨pl, tm, ba, ky, gn, va, hs⟩) := by
              unfold findN
              rw [HPA.out, find_app HF.out.none, List.find?_cons_of_pos (by simpa using HQ.out)]
            refine bodyPost_ret (v := .tuple #[.agg #[.int .i64 pl, .int .i64 tm, .bool ba, .string ky, .bool gn, .string va, .slice hA2 hs.length hcc], .bool true]) (find_result W.heap.size (set7_box (HF.out.box.drewN _) _ _ _ _ _ _ _) _ rfl rfl) rfl ⟨⟨pl, tm, ba, ky, gn, va, hs⟩, hA2, hcc, true, rfl, below_off (HF.out.drew _).bel (set7_off _ W.heap.size _ _ _ _ _ _ _) (Nat.le_refl _), fun p hp => ?_, fun hn => ?_⟩
            · rw [hfd] at hp
              injection hp with hp
              subst hp
              exact ⟨rfl, rfl⟩
            · rw [hfd] at hn
              cases hn
          · have hqe : (base + pl == at_) = false := by simpa using hq
            have HQ := Lib.hid hq
            clear hq x0 x1 x2 x3 x4 x5 x6 f0 f1 f2 f3 f4 f5 f6
            go_wp2_with fail
            go_quiet (fail)
            go_wp2_with fail
            go_roundw
            case rel =>
              refine ⟨m + 1, by go_num, hml, HF.out.box.drewN _, HF.out.bel.trans ⟨rfl, rfl, rfl, Nat.le_refl _, fun _ _ => rfl⟩, fun p hp => ?_⟩
              rw [HY.out, ← List.append_assoc] at hp
              rcases List.mem_append.1 hp with hp | hp
              · exact HF.out.none p hp
              · have : p = _ := List.mem_singleton.1 hp
                subst this
                exact HQ.out
            case measure => simp [intOf]; omega
        · have hmi : ¬ (m : Int) < (R.length : Int) := by omega
          have e1 : (R.map (·.1)).take m = R.map (·.1) := List.take_of_length_le (by rw [List.length_map]; omega)
          have HF2 : Hid (FiS W (placesN ((L.map BX.told).take (k + 1))) at_ _) := Lib.hid (by rw [HST.out, ← e1]; exact hF)
          clear hF hcb e9 hrs2 e1
          go_wp2_with fail
          go_roundw
          case rel => exact ⟨k + 1, by go_num, hkl, HF2.out⟩
          case measure => simp [intOf]; omega
    · have hki : ¬ (k : Int) < (L.length : Int) := by omega
      have e1 : (L.map BX.told).take k = L.map BX.told := List.take_of_length_le (by rw [List.length_map]; omega)
      rw [e1] at hS
      have x0 := (hS.box.cell 0).trans (show _ = some (.int .i64 0) from rfl)
      have x1 := (hS.box.cell 1).trans (show _ = some (.int .i64 0) from rfl)
      have x2 := (hS.box.cell 2).trans (show _ = some (.bool false) from rfl)
      have x3 := (hS.box.cell 3).trans (show _ = some (.string ⟨#[]⟩) from rfl)
      have x4 := (hS.box.cell 4).trans (show _ = some (.bool false) from rfl)
      have x5 := (hS.box.cell 5).trans (show _ = some (.string ⟨#[]⟩) from rfl)
      have x6 := (hS.box.cell 6).trans (show _ = some (.slice none 0 0) from rfl)
      have f0 := hS.box.frozen 0
      have f1 := hS.box.frozen 1
      have f2 := hS.box.frozen 2
      have f3 := hS.box.frozen 3
      have f4 := hS.box.frozen 4
      have f5 := hS.box.frozen 5
      have f6 := hS.box.frozen 6
      have hlt := hS.box.lt
      have HS := Lib.hid hS
      clear hS e1
      go_wp2_with fail
      have hfd : findN (L.map BX.told) at_ = none := List.find?_eq_none.2 (fun p hp => by simpa using HS.out.none p hp)
      refine bodyPost_ret (v := .tuple #[.agg zC, .bool false]) (find_result W.heap.size (set7_box HS.out.box _ _ _ _ _ _ _) _ rfl rfl) rfl ⟨zRec, none, 0, false, rfl, below_off HS.out.bel (set7_off _ W.heap.size _ _ _ _ _ _ _) (Nat.le_refl _), fun p hp => ?_, fun _ => rfl⟩
      rw [hfd] at hp
      cases hp
theorem goodL_rise {span : Int} : ∀ {L : List RX} {last : Int}, goodL span last L = true → (L.map (·.1)).Pairwise (fun a b => a.place < b.place) ∧ ∀ r ∈ L.map (·.1), last < r.place ∧ r.place < span
  | [], last, _ => ⟨.nil, fun r hr => by cases hr⟩
  | x :: l, last, h => by
    unfold goodL at h
    simp only [Bool.and_eq_true, decide_eq_true_eq] at h
    obtain ⟨_, h1, h2, h3⟩ := h
    obtain ⟨i1, i2⟩ := goodL_rise h3
    rw [List.map_cons, List.pairwise_cons]
    refine ⟨⟨fun r hr => (i2 r hr).1, i1⟩, fun r hr => ?_⟩
    rcases List.mem_cons.1 hr with rfl | hr
    · exact ⟨h2, h1⟩
    · have := i2 r hr
      omega
theorem numB_out {b : BN} (h : numB b = true) : (0 ≤ b.base ∧ b.base ≤ 1099511627776) ∧ (1 ≤ b.span ∧ b.span ≤ 50) ∧ (-1 ≤ b.prod ∧ b.prod ≤ 1073741824) := by
  unfold numB wi noneB someB at h
  simp only [Bool.and_eq_true, Bool.or_eq_true, decide_eq_true_eq, wi] at h
  obtain ⟨⟨⟨h1, h2⟩, h3⟩, h4⟩ := h
  refine ⟨h1, ⟨h2, h3⟩, ?_⟩
  rcases h4 with h4 | h4 <;> omega
/-- Batches one behind the other, under way. -/
structure RowK (M : List BX) (a : Int) (k : Nat) : Prop where
  len : M.length ≤ k
  lo : 0 ≤ a
  hi : a ≤ 50 * (k : Int)
  rise : RiseN (M.map BX.told)
  top : ∀ p ∈ placesN (M.map BX.told), p.1 < a
  few : ∀ x ∈ M, FewX x ∧ Pr.i64B x.1.prod
theorem RowK.skip {M : List BX} {a : Int} {k : Nat} (h : RowK M a k) : RowK M a (k + 1) := ⟨Nat.le_succ_of_le h.len, h.lo, by have := h.hi; omega, h.rise, h.top, h.few⟩
theorem RowK.next {M : List BX} {a span prod epoch seq : Int} {k : Nat} {R R' : List RX} {A : Option Addr} {c : Nat} (h : RowK M a k) (hk : k ≤ 8) (hb : batB ⟨a, span, prod, epoch, seq⟩ R' = true) (he : R'.map (·.1) = R.map (·.1)) (hs : SmallL R) :
    RowK (M ++ [(⟨a, span, prod, epoch, seq⟩, R', A, c)]) (a + span) (k + 1) := by
  unfold batB at hb
  simp only [Bool.and_eq_true, decide_eq_true_eq] at hb
  obtain ⟨h1, h2, h3, _⟩ := hb
  obtain ⟨⟨n1, n2⟩, ⟨n3, n4⟩, n5, n6⟩ := numB_out h1
  (try dsimp only at n1 n2 n3 n4 n5 n6)
  obtain ⟨g1, g2⟩ := goodL_rise h3
  (try dsimp only at g2)
  have hlo := h.lo
  have hhi := h.hi
  have hpl : placesN ((M ++ [((⟨a, span, prod, epoch, seq⟩ : BN), R', A, c)]).map BX.told) = placesN (M.map BX.told) ++ plcB ⟨a, span, prod, epoch, seq⟩ (R'.map (·.1)) := by
    rw [List.map_append, placesN_app]
    show _ ++ placesN [_] = _
    rw [placesN_cons, show placesN [] = [] from rfl, List.append_nil]
    rfl
  have hin : ∀ q ∈ plcB ⟨a, span, prod, epoch, seq⟩ (R'.map (·.1)), a ≤ q.1 ∧ q.1 < a + span := fun q hq => by
    obtain ⟨r, hr, rfl⟩ := List.mem_map.1 hq
    have := g2 r hr
    show a ≤ a + r.place ∧ a + r.place < a + span
    omega
  have hsm : SmallL R' := by
    have hl : R'.length = R.length := by have := congrArg List.length he; rw [List.length_map, List.length_map] at this; exact this
    refine ⟨by rw [hl]; exact hs.1, fun y hy => ?_⟩
    have h8 : y.1 ∈ R.map (·.1) := by rw [← he]; exact List.mem_map_of_mem hy
    obtain ⟨v, hv, e3⟩ := List.mem_map.1 h8
    rw [← e3]
    exact hs.2 v hv
  refine ⟨by rw [List.length_append]; have := h.len; show M.length + 1 ≤ _; omega, by omega, by omega, ?_, fun p hp => ?_, fun x hx => ?_⟩
  · unfold RiseN
    rw [hpl, List.pairwise_append]
    refine ⟨h.rise, ?_, fun p hp q hq => by have h1 := h.top p hp; have h2 := (hin q hq).1; omega⟩
    unfold plcB
    rw [List.pairwise_map]
    exact g1.imp (fun hab => by show _ + _ < _ + _; omega)
  · rw [hpl] at hp
    rcases List.mem_append.1 hp with hp | hp
    · have := h.top p hp
      omega
    · exact (hin p hp).2
  · rcases List.mem_append.1 hx with hx | hx
    · exact h.few x hx
    · have : x = _ := List.mem_singleton.1 hx
      subst this
      refine ⟨⟨hsm, ⟨by show 0 ≤ a; omega, by show a ≤ 2199023255552; omega⟩, ⟨by show 0 ≤ span; omega, by show span ≤ 1000; omega⟩, fun y hy => ?_⟩, ?_⟩
      · have := g2 y.1 (List.mem_map_of_mem hy)
        omega
      · show Pr.i64B prod
        unfold Pr.i64B
        omega
theorem BtsI.appg {W w : World} {B : Option Addr} {d : Nat} {M : List BX} {y : BX} (h : BtsI W w (.slice B M.length d) M) (hb : Below W.heap.size W w) (hy : RowI W w (.slice y.2.2.1 y.2.1.length y.2.2.2) y.2.1) (hl : M.length ≤ 1000) :
    ∃ (A' : Option Addr) (c' : Nat) (w' : World), (Builtin.append_ #[22, 22] 22 #[.slice B M.length d, .slice (some ⟨w.heap.size, 0, none⟩) 1 1]).run Tryd.prog (w.alloc (.cells (bnC y.1 (.slice y.2.2.1 y.2.1.length y.2.2.2)) 29)) = .ok (.slice A' (M.length + 1) c') w' ∧
      BtsI W w' (.slice A' (M.length + 1) c') (M ++ [y]) ∧ Below W.heap.size W w' ∧ ∀ (b : Nat) (t : TypeId) (cs : Array Value), Box w b t cs → (∀ j, (Value.slice B M.length d).ownBlock = some j → j ≠ b) → Box w' b t cs := by
  have hA : Below w.heap.size w (w.alloc (.cells (bnC y.1 (.slice y.2.2.1 y.2.1.length y.2.2.2)) 29)) := (Below.refl _ _).alloc (Nat.le_refl _) _
  have h' := h.later hA
  have hy' := hy.later hA
  have hb' := hb.trans (hA.mono hb.size)
  have hbn := Box.new w 29 (bnC y.1 (.slice y.2.2.1 y.2.1.length y.2.2.2))
  have hbx : ∀ (b : Nat) (t : TypeId) (cs : Array Value), Box w b t cs → Box (w.alloc (.cells (bnC y.1 (.slice y.2.2.1 y.2.1.length y.2.2.2)) 29)) b t cs := fun b t cs hx => hx.later hA
  generalize hw9 : (w.alloc (.cells (bnC y.1 (.slice y.2.2.1 y.2.1.length y.2.2.2)) 29)) = w9 at *
  obtain ⟨A', c', w', r1, o1, g1⟩ := catZ (t := 22) (sz := 6) (u := .slice (some ⟨w.heap.size, 0, none⟩) 1 1) (m := 1) (ys := (bnC y.1 (.slice y.2.2.1 y.2.1.length y.2.2.2)).toList) (by decide) Tryd.underlying22 batInfo rfl (by decide) h'.row (.inr ⟨_, _, rfl, rfl, news_at hbn⟩) (bat_one y.1 y.2.2.1 y.2.1.length y.2.2.2) hb'.size (by omega)
  refine ⟨A', c', w', r1, h'.grow hy' o1 g1, hb'.grown g1 hb'.size (fun j hj => (h'.row.lt j hj).1), fun b t cs hx hne => (hbx b t cs hx).kept_by g1 ?_⟩
  cases ho : (Value.slice B M.length d).ownBlock with
  | none => exact .inl rfl
  | some j => exact .inr (fun e => hne j ho (by injection e))
def GotRow (W : World) (en : Ending) (w' : World) : Prop := ∃ (M : List BX) (B : Option Addr) (d : Nat), en = .returned (.slice B M.length d) ∧ BtsI W w' (.slice B M.length d) M ∧ Below W.heap.size W w' ∧ FewL M ∧ RiseN (M.map BX.told) ∧ ∀ x ∈ M, Pr.i64B x.1.prod
set_option maxHeartbeats 16000000 in
set_option maxRecDepth 100000 in
theorem row_c (L : List BX) (A : Option Addr) (c : Nat) (W : World) (h : BsIn W A L) (hf : FewL L) :
    Calls Tryd.prog 14 #[.slice A L.length c] W (GotRow W) := by
  have HA := Lib.hid h
  have HF := Lib.hid hf
  have hl8 : L.length ≤ 8 := hf.1
  clear h hf
  go_enter Tryd.func14, Tryd.ntmps14
  go_wp2_with fail
  go_loopw [3, 4, 5] (fun l a i wr => ∃ (k : Nat) (M : List BX) (B : Option Addr) (d : Nat) (at_ : Int), l = .slice B M.length d ∧ a = .int .i64 at_ ∧ i = .int .i64 k ∧ k ≤ L.length ∧ RowK M at_ k ∧ BtsI W wr (.slice B M.length d) M ∧ Below W.heap.size W wr) (fun _ _ i _ => L.length - (intOf i).toNat)
  case atStart => exact ⟨0, [], none, 0, 0, rfl, rfl, rfl, Nat.zero_le _, ⟨Nat.zero_le _, by omega, by omega, List.Pairwise.nil, fun p hp => (by cases hp), fun x hx => (by cases hx)⟩, BtsI.nil _ _, Below.refl _ _⟩
  case round =>
    obtain ⟨k, M, B, d, at_, rfl, rfl, rfl, hk, hK, hS, hbw⟩ := hrel
    by_cases hkl : k < L.length
    · obtain ⟨x, hx⟩ : ∃ x, L[k]? = some x := ⟨_, List.getElem?_eq_getElem hkl⟩
      obtain ⟨b, off, rfl, hbl, hca⟩ := (HA.out.below hbw) (by omega)
      obtain ⟨⟨z0, z1, z2, z3, z4, z5⟩, hrs⟩ := hca k x hx
      have hxm := List.mem_of_getElem? hx
      have hs1 := (HF.out.2 x hxm).1
      have HSM := Lib.hid hs1
      have HK := Lib.hid hK
      have HS := Lib.hid (And.intro hS hbw)
      have cc := rcopy5_c x.1 x.2.1 x.2.2.1 x.2.2.2 wr hrs (by have := hs1.1; omega) (fun y hy => by have := (hs1.2 y hy).1; omega)
      have hki : (k : Int) < (L.length : Int) := by omega
      have hk0 : (0 : Int) ≤ (k : Int) := by omega
      obtain ⟨⟨base, span, prod, epoch, seq⟩, R, RA, rc⟩ := x
      unfold CopiedB bnC at cc
      dsimp only at *
      clear hS hca hx hrs hxm hbw hs1 hK
      generalize hk6 : k * 6 = k6 at *
      go_wp2_with fail
      (with_reducible refine cc.mono ?_)
      rintro e w5 ⟨M5, A5, c5, hm5, rfl, hr5, hb5⟩
      have hsz5 := HS.out.2.size
      have HM5 := Lib.hid hm5
      have hsm5 : ∀ x ∈ M5, SmR x.1 := fun y hy => by
        have h8 : y.1 ∈ R.map (·.1) := by rw [← hm5]; exact List.mem_map_of_mem hy
        obtain ⟨v, hv, e3⟩ := List.mem_map.1 h8
        rw [← e3]
        exact small_smr (HSM.out.2 v hv)
      have hl5 : M5.length = R.length := by have := congrArg List.length hm5; rw [List.length_map, List.length_map] at this; exact this
      have hl50 := HSM.out.1
      have hA6 : Below w5.heap.size w5 (w5.alloc (.cells #[.int .i64 at_, .int .i64 span, .int .i64 prod, .int .i64 epoch, .int .i64 seq, .slice A5 M5.length c5] 29)) := (Below.refl _ _).alloc (Nat.le_refl _) _
      have hx6 := Box.new w5 29 #[.int .i64 at_, .int .i64 span, .int .i64 prod, .int .i64 epoch, .int .i64 seq, .slice A5 M5.length c5]
      have ck := rcheck5_c ⟨at_, span, prod, epoch, seq⟩ A5 c5 M5 _ ((own_rsin hr5 hsm5).below hA6) (by omega)
      have HX6 := Lib.hid hx6
      have HG : Hid (wr.heap.size ≤ w5.heap.size) := Lib.hid hb5.size
      have HS6 := Lib.hid ((HS.out.1.later hb5).later hA6)
      have HR6 := Lib.hid ((RowI.of (hr5.base hsz5)).later hA6)
      have HW6 := Lib.hid ((HS.out.2.trans (hb5.mono hsz5)).trans (hA6.mono (Nat.le_trans hsz5 hb5.size)))
      unfold bnC batE at ck
      dsimp only at ck
      clear cc hr5 hb5 hA6 hsz5 hm5 hsm5 hl5 hx6 z0 z1 z2 z3 z4 z5 hbl
      cases hbb : batB ⟨at_, span, prod, epoch, seq⟩ M5 with
      | false =>
        rw [hbb, if_neg (by decide)] at ck
        clear hbb
        go_wp2_with fail
        (with_reducible refine ck.mono ?_)
        rintro e w7 ⟨rfl, hb7⟩
        have HS7 := Lib.hid (HS6.out.later hb7)
        have HW7 := Lib.hid (HW6.out.trans (hb7.mono HW6.out.size))
        clear ck hb7
        go_wp2_with fail
        go_roundw
        case rel => exact ⟨k + 1, M, B, d, at_, rfl, rfl, by go_num, hkl, HK.out.skip, HS7.out, HW7.out⟩
        case measure => simp [intOf]; omega
      | true =>
        rw [hbb, if_pos rfl] at ck
        have HBB := Lib.hid hbb
        have HSP : Hid (1 ≤ span ∧ span ≤ 50) := Lib.hid (by unfold batB at hbb; simp only [Bool.and_eq_true] at hbb; exact (numB_out hbb.1).2.1)
        clear hbb
        go_wp2_with fail
        (with_reducible refine ck.mono ?_)
        rintro e w7 ⟨rfl, hb7⟩
        have hx7 := HX6.out.later hb7
        have x0 := (hx7.cell 0).trans (show _ = some (.int .i64 at_) from rfl)
        have x1 := (hx7.cell 1).trans (show _ = some (.int .i64 span) from rfl)
        have x2 := (hx7.cell 2).trans (show _ = some (.int .i64 prod) from rfl)
        have x3 := (hx7.cell 3).trans (show _ = some (.int .i64 epoch) from rfl)
        have x4 := (hx7.cell 4).trans (show _ = some (.int .i64 seq) from rfl)
        have x5 := (hx7.cell 5).trans (show _ = some (.slice A5 M5.length c5) from rfl)
        have hx7l := hx7.lt
        have hS7 := HS6.out.later hb7
        have hW7 := HW6.out.trans (hb7.mono HW6.out.size)
        have hK8 := HK.out.next (A := A5) (c := c5) (by omega) HBB.out HM5.out HSM.out
        obtain ⟨h81, h82⟩ := And.intro hK8.lo hK8.hi
        have hlen := HK.out.len
        obtain ⟨A8, c8, w8, r8, hS8, hW8, hkb⟩ := hS7.appg hW7 (y := (⟨at_, span, prod, epoch, seq⟩, M5, A5, c5)) (HR6.out.later hb7) (by omega)
        have hx8 := hkb _ _ _ hx7 (fun j hj => by have h1 := (HS.out.1.row.lt j hj).2; have h2 := HG.out; omega)
        have u0 := (hx8.cell 0).trans (show _ = some (.int .i64 at_) from rfl)
        have u1 := (hx8.cell 1).trans (show _ = some (.int .i64 span) from rfl)
        have HS8 := Lib.hid (And.intro hS8 hW8)
        have HK8 := Lib.hid hK8
        unfold bnC at r8
        clear ck hb7 hx7 hS7 hW7 hK8 hS8 hW8 hkb hx8 hlen
        have hn1 := HSP.out.1
        go_wp2_with (at_builtin; refine wpList_append_run rfl (.tmp 23) (.tmp 25) 22 rfl _ _ _ rfl rfl r8 ?_)
        exact ⟨⟨k + 1, M ++ [(⟨at_, span, prod, epoch, seq⟩, M5, A5, c5)], A8, c8, at_ + span, by rw [List.length_append]; rfl, rfl, by go_num, hkl, HK8.out, by rw [List.length_append]; exact HS8.out.1, HS8.out.2⟩, by simp [intOf]; omega⟩
    · have hki : ¬ (k : Int) < (L.length : Int) := by omega
      have HR : Hid (FewL M ∧ RiseN (M.map BX.told) ∧ ∀ x ∈ M, Pr.i64B x.1.prod) := Lib.hid ⟨⟨by have := hK.len; omega, fun x hx => (hK.few x hx).1⟩, hK.rise, fun x hx => (hK.few x hx).2⟩
      have HS := Lib.hid (And.intro hS hbw)
      clear hS hbw hK
      go_wp2_with fail
      go_ret
      exact ⟨M, B, d, rfl, HS.out.1, HS.out.2, HR.out⟩
end Go.Proofs.YtdclkhbolmbnmaaDoor
/- clean: behind cleaning the last record of a key is still there, what is there stood there, and cleaned again it is the same: the law's walk. No condition. -/
namespace Go.Proofs.YtdclkhbolmbnmaaDoor
open Go.RowKit Go.Maps Go.ChangeMaps Go.WideMaps
set_option linter.unusedVariables false
theorem drew_below {W w : World} (h : Below W.heap.size W w) (n : Nat) : Below W.heap.size W (w.drewN n) := h.trans ⟨rfl, rfl, rfl, Nat.le_refl _, fun _ _ => rfl⟩
theorem few_bp {N : List BX} (hn : FewL N) : ∀ x ∈ N, ∀ y ∈ x.2.1, Pr.i64B (x.1.base + y.1.place) := fun x hx y hy => by
  obtain ⟨_, h5, h6, h7⟩ := hn.2 x hx
  have := h7 y hy
  unfold Pr.i64B
  omega
/-- What is left of few batches are few. -/
theorem few_cln {L M : List BX} {upto before : Int} (hf : FewL L) (h : M.map BX.told = clnS upto before (L.map BX.told)) : FewL M ∧ ((∀ x ∈ L, Pr.i64B x.1.prod) → ∀ x ∈ M, Pr.i64B x.1.prod) := by
  have hall : ∀ z ∈ clnS upto before (L.map BX.told), ∃ x ∈ L, z.1 = x.1 ∧ z.2.Sublist (x.2.1.map (·.1)) := by
    have key : ∀ N : List BR, ∀ z ∈ clnS upto before N, ∃ q ∈ N, z.1 = q.1 ∧ z.2.Sublist q.2 := by
      intro N
      induction N with
      | nil => intro z hz; cases hz
      | cons a N ih =>
        intro z hz
        unfold clnS at hz
        rcases List.mem_append.1 hz with hz | hz
        · split at hz
          · have : z = a := List.mem_singleton.1 hz
            subst this
            exact ⟨z, List.mem_cons_self .., rfl, List.Sublist.refl _⟩
          · unfold clnO at hz
            split at hz
            · have : z = _ := List.mem_singleton.1 hz
              subst this
              exact ⟨a, List.mem_cons_self .., rfl, keepS_sub _⟩
            · cases hz
        · obtain ⟨q, hq, h1, h2⟩ := ih z hz
          exact ⟨q, List.mem_cons_of_mem _ hq, h1, h2⟩
    intro z hz
    obtain ⟨q, hq, h1, h2⟩ := key _ z hz
    obtain ⟨x, hx, rfl⟩ := List.mem_map.1 hq
    exact ⟨x, hx, h1, h2⟩
  have hlen : M.length ≤ L.length := by
    have h1 := (prods_sub (upto := upto) (before := before) (L.map BX.told)).length_le
    rw [← h] at h1
    simpa using h1
  have hx1 : ∀ x ∈ M, ∃ z ∈ L, x.1 = z.1 ∧ (x.2.1.map (·.1)).Sublist (z.2.1.map (·.1)) := fun x hx => hall x.told (by rw [← h]; exact told_mem hx)
  refine ⟨⟨Nat.le_trans hlen hf.1, fun x hx => ?_⟩, fun hp x hx => ?_⟩
  · obtain ⟨z, hz, e1, e2⟩ := hx1 x hx
    obtain ⟨⟨h3, h4⟩, h5, h6, h7⟩ := hf.2 z hz
    have hl2 := e2.length_le
    rw [List.length_map, List.length_map] at hl2
    have hall2 : ∀ p : Rec → Prop, (∀ y ∈ z.2.1, p y.1) → ∀ y ∈ x.2.1, p y.1 := fun p hp y hy => by
      obtain ⟨v, hv, e3⟩ := List.mem_map.1 (e2.subset (List.mem_map_of_mem (f := (·.1)) hy))
      rw [← e3]
      exact hp v hv
    exact ⟨⟨by omega, hall2 _ h4⟩, by rw [e1]; exact h5, by rw [e1]; exact h6, hall2 (fun r => 0 ≤ r.place ∧ r.place ≤ 1000) h7⟩
  · obtain ⟨z, hz, e1, _⟩ := hx1 x hx
    rw [e1]
    exact hp z hz
/-- Latest of batches by a contract, with the record that stands there. -/
theorem latest_at {M : List BX} {B : Option Addr} {d : Nat} {key : ByteArray} (hfm : FewL M) (hz : key.size ≤ 140737488351232) :
    ∃ (v : Int) (is : Bool), (∀ w, BsIn w B M → Calls Tryd.prog 10 #[.slice B M.length d, .string key] w (Good w (.tuple #[.int .i64 v, .bool is]))) ∧ (is = true → ∃ r : Rec, (v, r) ∈ placesN (M.map BX.told) ∧ (r.gone = false → ∀ upto before : Int, (v, r) ∈ placesN (clnS upto before (M.map BX.told)))) := by
  have hkz : key.size ≤ maxLen := by unfold maxLen; omega
  have h50 : ∀ x ∈ M, x.2.1.length ≤ 1000 := fun x hx => by have := (hfm.2 x hx).1.1; omega
  have hky : ∀ x ∈ M, ∀ y ∈ x.2.1, y.1.key.size ≤ maxLen := fun x hx y hy => by have := ((hfm.2 x hx).1.2 y hy).2.1; unfold maxLen; omega
  have hl1 : M.length ≤ 1000 := by have := hfm.1; omega
  cases ho : ofN (lastF (M.map bxR)) key.data.toList with
  | none => exact ⟨0, false, fun w hw => latest_no M B d key w hw hl1 h50 hky hkz ho, fun e => by cases e⟩
  | some e =>
    obtain ⟨i, j, x, y, he, hx, hy, hb, hk, hno⟩ := last_split ho
    subst he
    refine ⟨x.1.base + y.1.place, true, fun w hw => latest_yes M B d key w hw hl1 h50 hky hkz ho hx hy (few_bp hfm x (List.mem_of_getElem? hx) y (List.mem_of_getElem? hy)), fun _ => ⟨y.1, in_places hx hy, fun hg upto before => last_stays hx hy (by rw [hk]; exact hno) hg⟩⟩
set_option maxHeartbeats 32000000 in
set_option maxRecDepth 100000 in
theorem cleanKeeps_walk (L : List BX) (A : Option Addr) (c : Nat) (upto before : Int) (key : ByteArray) (W : World) (hA : BsIn W A L) (hr : ∀ x ∈ L, x.2.1.length ≤ 140737488351232 ∧ Pr.i64B x.1.prod) (hz : key.size ≤ 140737488351232) (tab : True) :
    Calls Tryd.prog 4 #[.agg #[.slice A L.length c, .int .i64 upto, .int .i64 before, .string key]] W (Good W (.bool true)) := by
  have hb0 : Below W.heap.size W (W.alloc (.cells #[.slice A L.length c, .int .i64 upto, .int .i64 before, .string key] 24)) := (Below.refl _ _).alloc (Nat.le_refl _) _
  have hbx := Box.new W 24 #[.slice A L.length c, .int .i64 upto, .int .i64 before, .string key]
  have cf := fun w hb => few_c L A c w (hA.below hb) (fun x hx => (hr x hx).1)
  have HA := Lib.hid hA
  have HZ := Lib.hid hz
  have HB0 := Lib.hid hb0
  have cl := fun w => live_c w
  have CL := Lib.hid cl
  have CF := Lib.hid cf
  clear hA hr hz tab cl cf hb0
  have y0 := (hbx.cell 0).trans (show _ = some (.slice A L.length c) from rfl)
  have y1 := (hbx.cell 1).trans (show _ = some (.int .i64 upto) from rfl)
  have y2 := (hbx.cell 2).trans (show _ = some (.int .i64 before) from rfl)
  have y3 := (hbx.cell 3).trans (show _ = some (.string key) from rfl)
  clear hbx
  go_enter Tryd.func4, Tryd.ntmps4
  go_wp2_with fail
  go_quiet (fail)
  clear y0 y1 y2 y3
  have hbd : ∀ n, Below W.heap.size W ((W.alloc (.cells #[.slice A L.length c, .int .i64 upto, .int .i64 before, .string key] 24)).drewN n) := fun n => HB0.out.trans ⟨rfl, rfl, rfl, Nat.le_refl _, fun _ _ => rfl⟩
  have HB1 := Lib.hid hbd
  have cfw := fun n => CF.out _ (hbd n)
  clear hbd
  go_wp2_with fail
  (with_reducible refine (cfw _).mono ?_)
  rintro e w1 ⟨res, rfl, hfew, hb1⟩
  cases res with
  | false =>
    have HB := Lib.hid ((HB1.out _).trans (hb1.mono (HB1.out _).size))
    have cl := CL.out w1
    clear hfew cfw hb1
    go_wp2_with fail
    (with_reducible refine cl.mono ?_)
    rintro e w2 ⟨rfl, hb2⟩
    have HB2 := Lib.hid (HB.out.trans (hb2.mono HB.out.size))
    clear cl hb2
    go_wp2_with fail
    go_ret
    exact ⟨rfl, HB2.out⟩
  | true =>
    have HF := Lib.hid (hfew rfl)
    have HB := Lib.hid ((HB1.out _).trans (hb1.mono (HB1.out _).size))
    have cr := row_c L A c w1 (HA.out.below HB.out) HF.out
    clear cfw hfew hb1
    go_wp2_with fail
    (with_reducible refine cr.mono ?_)
    rintro e w2 ⟨M, B, d, rfl, hS, hb2, hfm, hrise, hpr⟩
    have hbM := btsI_in hS hb2 (few_smr hfm)
    have HBM := Lib.hid hbM
    have hbw := HB.out.trans (hb2.mono HB.out.size)
    have HBW := Lib.hid hbw
    have HFM := Lib.hid hfm
    have HRS := Lib.hid hrise
    have HPR := Lib.hid hpr
    have hm8 : M.length ≤ 8 := hfm.1
    have cc := clean_c M B d upto before w2 hbM (by omega) (fun x hx => by have := (hfm.2 x hx).1.1; omega) (fun x hx y hy => by have := ((hfm.2 x hx).1.2 y hy).2.1; unfold maxLen; omega) (fun x hx y hy => by have := ((hfm.2 x hx).1.2 y hy).1; omega) hpr (fun x hx => by
      obtain ⟨_, h5, h6, h7⟩ := hfm.2 x hx
      unfold Pr.i64B
      omega)
    rw [clnL_clnS] at cc
    obtain ⟨v, is, l1, l2⟩ := latest_at (B := B) (d := d) hfm HZ.out
    have L1 := Lib.hid l1
    have L2 := Lib.hid l2
    have FM := Lib.hid (fun (w : World) (h : BsIn w B M) (a : Int) => find_c M B d a w h (by omega) (fun x hx => by have := (hfm.2 x hx).1.1; omega) (few_bp hfm))
    clear cr hS hb2 hbw hfm hrise hpr hbM l1 l2
    go_wp2_with fail
    (with_reducible refine cc.mono ?_)
    rintro e w3 ⟨N, D, dn, hN, rfl, hbt, hb3⟩
    obtain ⟨hfn, hpn⟩ := few_cln HFM.out hN
    have HN := Lib.hid hN
    have HFN := Lib.hid hfn
    have hn8 : N.length ≤ 8 := hfn.1
    have hbN := own_bsin hbt (few_smr hfn)
    have HBN := Lib.hid hbN
    have HM3 := Lib.hid (HBM.out.below hb3)
    have HW3 := Lib.hid (HBW.out.trans (hb3.mono HBW.out.size))
    have HRN : Hid (RiseN (N.map BX.told)) := Lib.hid (by rw [hN]; exact rise_clean HRS.out)
    have FN := Lib.hid (fun (w : World) (h : BsIn w D N) (a : Int) => find_c N D dn a w h (by omega) (fun x hx => by have := (hfn.2 x hx).1.1; omega) (few_bp hfn))
    have CN := Lib.hid (fun (w : World) (h : BsIn w D N) => clean_c N D dn upto before w h (by omega) (fun x hx => by have := (hfn.2 x hx).1.1; omega) (fun x hx y hy => by have := ((hfn.2 x hx).1.2 y hy).2.1; unfold maxLen; omega) (fun x hx y hy => by have := ((hfn.2 x hx).1.2 y hy).1; omega) (hpn HPR.out) (fun x hx => by
      obtain ⟨_, h5, h6, h7⟩ := hfn.2 x hx
      unfold Pr.i64B
      omega))
    have c1 := L1.out w3 HM3.out
    clear cc hN hfn hpn hbt hb3 hbN
    go_wp2_with fail
    (with_reducible refine c1.mono ?_)
    rintro e w4 ⟨rfl, hb4⟩
    have HM4 := Lib.hid (HM3.out.below hb4)
    have HN4 := Lib.hid (HBN.out.below hb4)
    have HW4 := Lib.hid (HW3.out.trans (hb4.mono HW3.out.size))
    clear c1 hb4
    go_upto_if 46 with fail
    go_cut [11, 12, 13, 14] from 46 to 86 (fun _ _ _ _ wx => Below w4.heap.size w4 wx)
    case first =>
      cases is with
      | false =>
        go_wp2_with fail
        go_meet
        exact Below.refl _ _
      | true =>
        obtain ⟨r, hr, hst⟩ := L2.out rfl
        have HST := Lib.hid hst
        have HFR := Lib.hid (findN_in HRS.out hr)
        have f1 := FM.out w4 HM4.out v
        clear hr hst
        go_wp2_with fail
        (with_reducible refine f1.mono ?_)
        rintro e w5 ⟨r1, A1, c1, b1, rfl, hb5, hy, _⟩
        obtain ⟨rfl, hr1⟩ := hy _ HFR.out
        replace hr1 : r = r1 := hr1.symm
        subst hr1
        have hb6 := hb5.trans (((Below.refl _ _).alloc (Nat.le_refl _) (.cells (recC r A1 c1) 39)).mono hb5.size)
        have HX6 := Lib.hid (Box.new w5 39 (recC r A1 c1))
        have f2 := FN.out _ (HN4.out.below hb6) v
        have HB6 := Lib.hid hb6
        have hgr : r.gone = false → findN (N.map BX.told) v = some (v, r) := fun hg => findN_in HRN.out (by rw [HN.out]; exact HST.out hg upto before)
        have HGR := Lib.hid hgr
        obtain ⟨pl, tm, ba, ky, gn, va, hs⟩ := r
        unfold recV recC
        dsimp only at *
        unfold recC at f2
        clear f1 hb5 hb6 hgr hy
        go_wp2_with fail
        (with_reducible refine f2.mono ?_)
        rintro e w7 ⟨r2, A2, c2, b2, rfl, hb7, hy2, _⟩
        have hx7 := HX6.out.later hb7
        have q1 := (hx7.cell 1).trans (show _ = some (.int .i64 tm) from rfl)
        have q3 := (hx7.cell 3).trans (show _ = some (.string ky) from rfl)
        have q4 := (hx7.cell 4).trans (show _ = some (.bool gn) from rfl)
        have q5 := (hx7.cell 5).trans (show _ = some (.string va) from rfl)
        have hlt := hx7.lt
        have HB8 := Lib.hid ((HB6.out.trans (hb7.mono HB6.out.size)).alloc (HB6.out.trans (hb7.mono HB6.out.size)).size (.cells (recC r2 A2 c2) 39))
        cases gn with
        | true =>
          obtain ⟨pl2, tm2, ba2, ky2, gn2, va2, hs2⟩ := r2
          unfold recV recC
          unfold recC at HB8
          dsimp only at *
          clear f2 hb7 hy2 hx7
          go_wp2_with fail
          go_meet
          exact HB8.out
        | false =>
          obtain ⟨rfl, hr2⟩ := hy2 _ (HGR.out rfl)
          replace hr2 := hr2.symm
          subst hr2
          unfold recV recC
          unfold recC at HB8
          dsimp only at *
          clear f2 hb7 hy2 hx7
          go_wp2_with fail
          go_meet
          exact HB8.out
    case rest =>
      have HB5 := Lib.hid hcut
      have HM5 := Lib.hid (HM4.out.below hcut)
      have HN5 := Lib.hid (HN4.out.below hcut)
      have HW5 := Lib.hid (HW4.out.trans (hcut.mono HW4.out.size))
      have h0 : ∀ p ∈ placesN ((N.map BX.told).drop 0), (-1 : Int) < p.1 := fun p hp => by
        obtain ⟨z, hz, hp2⟩ := List.mem_flatMap.1 (show p ∈ (N.map BX.told).flatMap _ from hp)
        obtain ⟨x, hx, rfl⟩ := List.mem_map.1 hz
        obtain ⟨r, hr, rfl⟩ := List.mem_map.1 hp2
        obtain ⟨y, hy, rfl⟩ := List.mem_map.1 (show r ∈ x.2.1.map (·.1) from hr)
        obtain ⟨_, h5, h6, h7⟩ := HFN.out.2 x hx
        have := h7 y hy
        show (-1 : Int) < x.1.base + y.1.place
        omega
      have H0 := Lib.hid h0
      clear hcut h0
      go_wp2_with fail
      go_loopw [15, 16] (fun a i wr => ∃ (k : Nat) (n : Int), a = .int .i64 n ∧ i = .int .i64 k ∧ k ≤ N.length ∧ (∀ p ∈ placesN ((N.map BX.told).drop k), n < p.1) ∧ Below wc.heap.size wc wr) (fun _ i _ => N.length - (intOf i).toNat)
      case atStart => exact ⟨0, -1, rfl, rfl, Nat.zero_le _, H0.out, Below.refl _ _⟩
      case round =>
        obtain ⟨k, n, rfl, rfl, hk, hn, hbw⟩ := hrel
        clear H0
        by_cases hkl : k < N.length
        · obtain ⟨x, hx⟩ : ∃ x, N[k]? = some x := ⟨_, List.getElem?_eq_getElem hkl⟩
          have HXX := Lib.hid hx
          have HBW := Lib.hid hbw
          have hki : (k : Int) < (N.length : Int) := by omega
          have hk0 : (0 : Int) ≤ (k : Int) := by omega
          obtain ⟨b, off, rfl, hbl, hca⟩ := (HN5.out.below hbw) (by omega)
          obtain ⟨⟨z0, z1, z2, z3, z4, z5⟩, hrs⟩ := hca k x hx
          have hR := (HFN.out.2 x (List.mem_of_getElem? hx)).1.1
          have hxf := HFN.out.2 x (List.mem_of_getElem? hx)
          have HXF := Lib.hid hxf
          have hdrop : placesN ((N.map BX.told).drop k) = plcB x.1 (x.2.1.map (·.1)) ++ placesN ((N.map BX.told).drop (k + 1)) := by
            rw [List.drop_eq_getElem_cons (by rw [List.length_map]; exact hkl), List.getElem_map, (List.getElem?_eq_some_iff.1 hx).2, placesN_cons]
            rfl
          have H1 : Hid (∀ p ∈ plcB x.1 ((x.2.1.map (·.1)).drop 0) ++ placesN ((N.map BX.told).drop (k + 1)), n < p.1) := Lib.hid (by rw [List.drop_zero, ← hdrop]; exact hn)
          obtain ⟨⟨base, span, prod, epoch, seq⟩, R, RA, rc⟩ := x
          dsimp only at *
          clear hbw hca hx hrs hxf hdrop hn
          generalize hk6 : k * 6 = k6 at *
          go_wp2_with fail
          clear z0 z1 z2 z3 z4 z5 hbl
          go_loopw [15, 17] (fun a j w => ∃ (m : Nat) (n : Int), a = .int .i64 n ∧ j = .int .i64 m ∧ m ≤ R.length ∧ (∀ p ∈ plcB ⟨base, span, prod, epoch, seq⟩ ((R.map (·.1)).drop m) ++ placesN ((N.map BX.told).drop (k + 1)), n < p.1) ∧ Below wc.heap.size wc w) (fun _ j _ => R.length - (intOf j).toNat)
          case atStart => exact ⟨0, n, rfl, rfl, Nat.zero_le _, H1.out, HBW.out⟩
          case round =>
            obtain ⟨m, n, rfl, rfl, hm, hn, hbw⟩ := hrel
            clear H1
            obtain ⟨_, _, e9, hbl9, hcb⟩ := (HN5.out.below hbw) (by omega)
            obtain ⟨rfl, rfl⟩ : b = _ ∧ off = _ := by injection e9 with e9; injection e9 with e91 e92; exact ⟨e91, e92⟩
            obtain ⟨⟨z0, z1, z2, z3, z4, z5⟩, hrs2⟩ := hcb k _ HXX.out
            dsimp only at z0 z1 z2 z3 z4 z5 hrs2
            rw [hk6] at z0 z1 z2 z3 z4 z5
            have HB6 := Lib.hid hbw
            by_cases hml : m < R.length
            · obtain ⟨y, hy⟩ : ∃ y, R[m]? = some y := ⟨_, List.getElem?_eq_getElem hml⟩
              obtain ⟨b3, off3, rfl, hbl3, hc3⟩ := hrs2 (by omega)
              have hrx := (hc3 m y hy).1
              have HRX := Lib.hid (And.intro hrx hbl3)
              obtain ⟨p0, p1, p2, p3, p4, p5, p6⟩ := hrx
              have hmi : (m : Int) < (R.length : Int) := by omega
              have hm0 : (0 : Int) ≤ (m : Int) := by omega
              have hyr : (R.map (·.1))[m]? = some y.1 := by rw [List.getElem?_map, hy]; rfl
              have hdr : (R.map (·.1)).drop m = y.1 :: (R.map (·.1)).drop (m + 1) := by
                rw [List.drop_eq_getElem_cons (by rw [List.length_map]; exact hml), (List.getElem?_eq_some_iff.1 hyr).2]
              have hnx : n < base + y.1.place := hn (base + y.1.place, y.1) (by rw [hdr]; exact List.mem_append.2 (.inl (List.mem_cons_self ..)))
              have hpa := places_all HXX.out hy
              have hrise := HRN.out
              unfold RiseN at hrise
              rw [hpa, List.pairwise_append, List.pairwise_cons] at hrise
              have HNX : Hid (∀ p ∈ plcB ⟨base, span, prod, epoch, seq⟩ ((R.map (·.1)).drop (m + 1)) ++ placesN ((N.map BX.told).drop (k + 1)), base + y.1.place < p.1) := Lib.hid hrise.2.1.1
              have hin := in_places HXX.out hy
              rw [HN.out] at hin
              have HFD := Lib.hid (findN_was HRS.out hin)
              have hyf := HXF.out.2.2.2 y (List.mem_of_getElem? hy)
              obtain ⟨hyf1, hyf2⟩ := hyf
              obtain ⟨hbf1, hbf2⟩ := HXF.out.2.1
              have f1 := fun nq => FM.out (wr.drewN nq) (HM5.out.below (drew_below hbw nq)) (base + y.1.place)
              have HY := Lib.hid hy
              obtain ⟨⟨pl, tm, ba, ky, gn, va, hs⟩, hA2, hcc⟩ := y
              dsimp only at *
              clear hbw hcb hc3 hy hyr hdr hn hpa hrise hin e9
              generalize hm7 : m * 7 = m7 at *
              go_wp2_with fail
              go_quiet (fail)
              clear z0 z1 z2 z3 z4 z5 p0 p1 p2 p3 p4 p5 p6
              go_wp2_with fail
              (with_reducible refine (f1 _).mono ?_)
              rintro e w7 ⟨r1, A1, c1, b1, rfl, hb7, hf, _⟩
              obtain ⟨rfl, hr1⟩ := hf _ HFD.out
              replace hr1 := hr1.symm
              subst hr1
              unfold recV recC
              dsimp only
              have hb7' := (drew_below HB6.out _).trans (hb7.mono (drew_below HB6.out _).size)
              have hb8 := hb7'.alloc hb7'.size (.cells #[.int .i64 pl, .int .i64 tm, .bool ba, .string ky, .bool gn, .string va, .slice A1 hs.length c1] 39)
              have HB8 := Lib.hid hb8
              obtain ⟨_, _, e9, hbl9, hcb⟩ := (HN5.out.below hb8) (by omega)
              obtain ⟨rfl, rfl⟩ : b = _ ∧ off = _ := by injection e9 with e9; injection e9 with e91 e92; exact ⟨e91, e92⟩
              obtain ⟨⟨z0, z1, z2, z3, z4, z5⟩, hrs2⟩ := hcb k _ HXX.out
              dsimp only at z0 z1 z2 z3 z4 z5 hrs2
              rw [hk6] at z0 z1 z2 z3 z4 z5
              obtain ⟨_, _, e9, hbl3, hc3⟩ := hrs2 (by omega)
              obtain ⟨rfl, rfl⟩ : b3 = _ ∧ off3 = _ := by injection e9 with e9; injection e9 with e91 e92; exact ⟨e91, e92⟩
              obtain ⟨⟨p0, p1, p2, p3, p4, p5, p6⟩, _⟩ := hc3 m _ HY.out
              dsimp only at p0 p1 p2 p3 p4 p5 p6
              rw [hm7] at p0 p1 p2 p3 p4 p5 p6
              clear f1 hb7 hf hb7' hb8 e9 hcb hrs2 hc3
              have hnx' : ¬ base + pl ≤ n := by omega
              go_wp2_with fail
              go_quiet (fail)
              go_wp2_with fail
              go_roundw
              case rel => exact ⟨m + 1, base + pl, rfl, by go_num, hml, HNX.out, drew_below HB8.out _⟩
              case measure => simp [intOf]; omega
            · have hmi : ¬ (m : Int) < (R.length : Int) := by omega
              have hd : (R.map (·.1)).drop m = [] := List.drop_of_length_le (by rw [List.length_map]; omega)
              have HN2 : Hid (∀ p ∈ placesN ((N.map BX.told).drop (k + 1)), n < p.1) := Lib.hid (by rw [hd] at hn; exact hn)
              clear hbw hcb e9 hrs2 hd hn
              go_wp2_with fail
              go_roundw
              case rel => exact ⟨k + 1, n, rfl, by go_num, hkl, HN2.out, HB6.out⟩
              case measure => simp [intOf]; omega
        · have hki : ¬ (k : Int) < (N.length : Int) := by omega
          have HB6 := Lib.hid (HW5.out.trans (hbw.mono HW5.out.size))
          have HN6 := Lib.hid (HN5.out.below hbw)
          have cc := CN.out wr HN6.out
          rw [clnL_clnS] at cc
          clear hn hbw
          go_wp2_with fail
          (with_reducible refine cc.mono ?_)
          rintro e w7 ⟨N2, D2, dn2, hN2, rfl, hbt, hb7⟩
          have he : N2.map BX.told = N.map BX.told := by rw [hN2, HN.out, clnS_idem]
          have hfn2 := few_told he HFN.out
          have cs := rsameAll5_c N N2 D D2 dn dn2 w7 (HN6.out.below hb7) (own_bsin hbt (few_smr hfn2)) he.symm (by omega) (fun x hx => ⟨by have := (HFN.out.2 x hx).1.1; omega, fun y hy => by have := ((HFN.out.2 x hx).1.2 y hy).1; omega⟩)
          have HB7 := Lib.hid (HB6.out.trans (hb7.mono HB6.out.size))
          clear cc hN2 hbt hb7 he hfn2
          go_wp2_with fail
          (with_reducible refine cs.mono ?_)
          rintro e w8 ⟨rfl, hb8⟩
          have HB8 := Lib.hid (HB7.out.trans (hb8.mono HB7.out.size))
          have cl := CL.out w8
          clear cs hb8
          go_wp2_with fail
          (with_reducible refine cl.mono ?_)
          rintro e w9 ⟨rfl, hb9⟩
          have HB9 := Lib.hid (HB8.out.trans (hb9.mono HB8.out.size))
          clear cl hb9
          go_wp2_with fail
          go_ret
          exact ⟨rfl, HB9.out⟩
end Go.Proofs.YtdclkhbolmbnmaaDoor
