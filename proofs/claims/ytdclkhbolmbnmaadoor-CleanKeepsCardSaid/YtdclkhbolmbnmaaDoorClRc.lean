/- clean: the document's Clean, by a contract: what the program's makes. No condition but that they are not too many. -/
import Derived.Test.YtdclkhbolmbnmaaDoorClIa
import Derived.Test.YtdclkhbolmbnmaaDoorClB
namespace Go.Proofs.YtdclkhbolmbnmaaDoor
open Go.RowKit Go.Maps Go.ChangeMaps Go.WideMaps
set_option linter.unusedVariables false
def CleanedI (W : World) (N : List (BN × List Rec)) (en : Ending) (w' : World) : Prop := ∃ (M : List BX) (A : Option Addr) (c : Nat), M.map BX.told = N ∧ en = .returned (.slice A M.length c) ∧ BtsI W w' (.slice A M.length c) M ∧ Below W.heap.size W w'
structure InS (W : World) (base span prod epoch seq : Int) (g : Nat) (R : List RX) (f : Nat → Rec → Bool) (v : Value) (M : List BX) (m : Nat) (K : List RX) (B' : Option Addr) (d' : Nat) (w : World) : Prop where
  box : Box w g 29 #[.int .i64 base, .int .i64 span, .int .i64 prod, .int .i64 epoch, .int .i64 seq, .slice B' K.length d']
  ke : KeI W (g + 1) w (.slice B' K.length d') K
  bts : BtsI W w v M
  bel : Below W.heap.size W w
  sz : g + 1 ≤ w.heap.size
  same : K.map (·.1) = keepL f 0 ((R.map (·.1)).take m)
  len : K.length ≤ m
section
variable {W w w' : World} {base span prod epoch seq : Int} {g : Nat} {R : List RX} {f : Nat → Rec → Bool} {v : Value} {M : List BX} {m : Nat} {K : List RX} {B' : Option Addr} {d' : Nat}
theorem InS.later (h : InS W base span prod epoch seq g R f v M m K B' d' w) (hb : Below w.heap.size w w') : InS W base span prod epoch seq g R f v M m K B' d' w' :=
  ⟨h.box.later hb, h.ke.later hb, h.bts.later hb, h.bel.trans (hb.mono h.bel.size), Nat.le_trans h.sz hb.size, h.same, h.len⟩
theorem InS.drop {y : RX} (h : InS W base span prod epoch seq g R f v M m K B' d' w) (hy : R[m]? = some y) (hf : f m y.1 = true) : InS W base span prod epoch seq g R f v M (m + 1) K B' d' w :=
  ⟨h.box, h.ke, h.bts, h.bel, h.sz, by rw [keep_step hy, hf, if_pos rfl, List.append_nil]; exact h.same, by have := h.len; omega⟩
theorem InS.keep {y : RX} (h : InS W base span prod epoch seq g R f v M m K B' d' w) (hy : R[m]? = some y) (hf : f m y.1 = false) (hh : HIn W y.2.1 y.1.heads) (hm : m ≤ 1000) (hg : W.heap.size ≤ g) (hB : ∀ j, v.ownBlock = some j → j ≠ g) (hold : ∀ x ∈ M, ∀ j, x.2.2.1 = some j → j.block < g + 1) :
    ∃ (A' : Option Addr) (c' : Nat) (w' : World), (Builtin.append_ #[27, 27] 27 #[.slice B' K.length d', .slice (some ⟨w.heap.size, 0, none⟩) 1 1]).run Tryd.prog (w.alloc (.cells (recC y.1 y.2.1 y.2.2) 39)) = .ok (.slice A' (K.length + 1) c') w' ∧
      w'.frozen? ⟨g, 5, none⟩ = false ∧ g < w'.heap.size ∧ w'.cell? ⟨g, 5, none⟩ = some (.slice B' K.length d') ∧ InS W base span prod epoch seq g R f v M (m + 1) (K ++ [y]) A' c' (w'.setCell ⟨g, 5, none⟩ (.slice A' (K.length + 1) c')) := by
  obtain ⟨A', c', w', r1, hk, hbl, hsz, hbx, hbt⟩ := h.ke.app (y := y) h.sz (by omega) h.bel (.inl hh) (by have := h.len; omega)
  have hx := hbx _ _ h.box
  have hO : Off (· = g) w' (w'.setCell ⟨g, 5, none⟩ (.slice A' (K.length + 1) c')) := Off.one w' ⟨g, 5, none⟩ _
  refine ⟨A', c', w', r1, hx.frozen 5, hx.lt, (hx.cell 5).trans rfl, ?_, ?_, (hbt _ _ h.bts hold).off hO hx hB, below_off hbl hO hg, ?_, ?_, ?_⟩
  · have := hx.set 5 (.slice A' (K.length + 1) c')
    rw [List.length_append]
    exact this
  · rw [List.length_append]
    exact hk.off hO hx (by decide) (by decide)
  · rw [World.size_setCell]
    exact Nat.le_trans h.sz hsz
  · rw [List.map_append, h.same, keep_step hy, hf, if_neg (by decide)]
    rfl
  · rw [List.length_append]
    have := h.len
    show K.length + 1 ≤ _
    omega
end
set_option maxHeartbeats 32000000 in
set_option maxRecDepth 100000 in
theorem rclean_c (L : List BX) (A : Option Addr) (c : Nat) (upto before : Int) (W : World) (h : BsIn W A L) (hl : L.length ≤ 1000) (hr : ∀ x ∈ L, x.2.1.length ≤ 1000) (hh : ∀ x ∈ L, ∀ y ∈ x.2.1, y.1.heads.length ≤ 1000) (hs : ∀ x ∈ L, Pr.i64B (x.1.base + x.1.span)) :
    Calls Tryd.prog 13 #[.slice A L.length c, .int .i64 upto, .int .i64 before] W (CleanedI W (clnL (lastF (L.map bxR)) (prdF 0 (L.map (·.1)) []) upto before 0 (L.map BX.told))) := by
  have HA := Lib.hid h
  have HR := Lib.hid hr
  have HH := Lib.hid hh
  have HQ := Lib.hid hs
  clear h hr hh hs
  obtain ⟨F, hF⟩ : ∃ F, lastF (L.map bxR) = F := ⟨_, rfl⟩
  obtain ⟨P, hP⟩ : ∃ P, prdF 0 (L.map (·.1)) [] = P := ⟨_, rfl⟩
  have HF := Lib.hid (And.intro hF hP)
  clear hF hP
  go_enter Tryd.func13, Tryd.ntmps13
  go_wp2_with fail
  go_loopw [7, 8] (fun l j wr => ∃ (k : Nat) (M : List BX) (B : Option Addr) (d : Nat), l = .slice B M.length d ∧ j = .int .i64 k ∧ k ≤ L.length ∧ M.length ≤ k ∧ M.map BX.told = clnL F P upto before 0 ((L.map BX.told).take k) ∧ BtsI W wr (.slice B M.length d) M ∧ Below W.heap.size W wr) (fun _ j _ => L.length - (intOf j).toNat)
  case atStart => exact ⟨0, [], none, 0, rfl, rfl, Nat.zero_le _, Nat.zero_le _, rfl, BtsI.nil _ _, Below.refl _ _⟩
  case round =>
    obtain ⟨k, M, B, d, rfl, rfl, hk, hmk, hM, hS, hbw⟩ := hrel
    by_cases hkl : k < L.length
    · obtain ⟨x, hx⟩ : ∃ x, L[k]? = some x := ⟨_, List.getElem?_eq_getElem hkl⟩
      obtain ⟨b, off, rfl, hbl, hca⟩ := (HA.out.below hbw) (by omega)
      obtain ⟨⟨z0, z1, z2, z3, z4, z5⟩, hrs⟩ := hca k x hx
      have hxm := List.mem_of_getElem? hx
      have HST := Lib.hid (clnL_step (F := F) (P := P) (upto := upto) (before := before) (show (L.map BX.told)[k]? = some x.told by rw [List.getElem?_map, hx]; rfl))
      have HM := Lib.hid hM
      have HS := Lib.hid (And.intro hS hbw)
      have HXX := Lib.hid hx
      have HHD : Hid (∀ (m : Nat) (y : RX), x.2.1[m]? = some y → HIn W y.2.1 y.1.heads) := Lib.hid (fun m y hy => by
        obtain ⟨_, _, _, _, hc⟩ := HA.out (by omega)
        obtain ⟨_, _, _, _, hd⟩ := (hc k x hx).2 (by have := (List.getElem?_eq_some_iff.1 hy).1; omega)
        exact (hd m y hy).2.heads)
      have hR1 := HR.out x hxm
      obtain ⟨hq1, hq2⟩ := HQ.out x hxm
      have cc := rcopy5_c x.1 x.2.1 x.2.2.1 x.2.2.2 wr hrs hR1 (HH.out x hxm)
      have HRS := Lib.hid hrs
      have hki : (k : Int) < (L.length : Int) := by omega
      have hk0 : (0 : Int) ≤ (k : Int) := by omega
      obtain ⟨⟨base, span, prod, epoch, seq⟩, R, RA, rc⟩ := x
      unfold CopiedB bnC at cc
      dsimp only at *
      have HB5 := Lib.hid (And.intro z5 hbl)
      clear hS hca hx hrs hxm hM hbw
      generalize hk6 : k * 6 = k6 at *
      go_wp2_with fail
      (with_reducible refine cc.mono ?_)
      rintro e w5 ⟨M5, A5, c5, hm5, rfl, hr5, hb5⟩
      have hsz5 := HS.out.2.size
      have hA6 : Below w5.heap.size w5 (w5.alloc (.cells #[.int .i64 base, .int .i64 span, .int .i64 prod, .int .i64 epoch, .int .i64 seq, .slice A5 M5.length c5] 29)) := (Below.refl _ _).alloc (Nat.le_refl _) _
      have hx6 := Box.new w5 29 #[.int .i64 base, .int .i64 span, .int .i64 prod, .int .i64 epoch, .int .i64 seq, .slice A5 M5.length c5]
      have hS6 := (HS.out.1.later hb5).later hA6
      have hr6 := ((RowI.of (hr5.base hsz5)).later hA6)
      have hW6 := (HS.out.2.trans (hb5.mono hsz5)).trans (hA6.mono (Nat.le_trans hsz5 hb5.size))
      have HRB : Hid (∀ j, (Value.slice B M.length d).ownBlock = some j → j < w5.heap.size) := Lib.hid (fun j hj => Nat.lt_of_lt_of_le (HS.out.1.row.lt j hj).2 hb5.size)
      by_cases hup : upto < base + span
      · obtain ⟨A7, c7, w7, r7, hS7, hW7⟩ := hS6.app hW6 (y := (⟨base, span, prod, epoch, seq⟩, M5, A5, c5)) hr6 (by omega)
        have HS7 := Lib.hid (And.intro hS7 hW7)
        unfold bnC at r7
        simp only [World.size_alloc] at r7
        clear cc hr5 hb5 hA6 hx6 hS6 hr6 hW6 hS7 hW7 hsz5
        go_wp2_with (at_builtin; refine wpList_append_run rfl (.tmp 30) (.tmp 32) 22 rfl _ _ _ rfl rfl r7 ?_)
        refine ⟨⟨k + 1, M ++ [(⟨base, span, prod, epoch, seq⟩, M5, A5, c5)], A7, c7, by rw [List.length_append]; rfl, by go_num, hkl, by rw [List.length_append]; show M.length + 1 ≤ _; omega, ?_, by rw [List.length_append]; exact HS7.out.1, HS7.out.2⟩, by simp [intOf]; omega⟩
        rw [HST.out, List.map_append, HM.out]
        rw [clnB_up (x := BX.told (⟨base, span, prod, epoch, seq⟩, R, RA, rc)) hup]
        show _ ++ [(_, M5.map (·.1))] = _
        rw [hm5]
        rfl
      · skip
        have HUP := Lib.hid hup
        have HG : Hid (W.heap.size ≤ w5.heap.size) := Lib.hid (Nat.le_trans hsz5 hb5.size)
        have HOLD : Hid (∀ x ∈ M, ∀ j, x.2.2.1 = some j → j.block < w5.heap.size + 1) := Lib.hid (fun x hx j hj => by have h1 := HS.out.1.old x hx j hj; have h2 := hb5.size; omega)
        have hA8 : Below w5.heap.size w5 (w5.alloc (.cells #[.int .i64 base, .int .i64 span, .int .i64 prod, .int .i64 epoch, .int .i64 seq, .slice none 0 0] 29)) := (Below.refl _ _).alloc (Nat.le_refl _) _
        have hS8 := (HS.out.1.later hb5).later hA8
        have hW8 := (HS.out.2.trans (hb5.mono hsz5)).trans (hA8.mono (Nat.le_trans hsz5 hb5.size))
        have H0 : Hid (InS W base span prod epoch seq w5.heap.size R (dropQ F k before) (.slice B M.length d) M 0 [] none 0 (w5.alloc (.cells #[.int .i64 base, .int .i64 span, .int .i64 prod, .int .i64 epoch, .int .i64 seq, .slice none 0 0] 29))) := Lib.hid ⟨Box.new _ _ _, ⟨World.ownsRow_nil _ _ _ _, fun y hy => by cases hy⟩, hS8, hW8, by rw [World.size_alloc]; exact Nat.le_refl _, rfl, Nat.le_refl _⟩
        clear cc hr5 hb5 hA6 hx6 hS6 hr6 hW6 hsz5 hA8 hS8 hW8
        go_wp2_with fail
        clear z0 z1 z2 z3 z4 z5 hbl hup
        go_loopw [10] (fun v w => ∃ (m : Nat) (K : List RX) (B' : Option Addr) (d' : Nat), v = .int .i64 m ∧ m ≤ R.length ∧ InS W base span prod epoch seq w5.heap.size R (dropQ F k before) (.slice B M.length d) M m K B' d' w) (fun v _ => R.length - (intOf v).toNat)
        case atStart => exact ⟨0, [], none, 0, rfl, Nat.zero_le _, H0.out⟩
        case round =>
          obtain ⟨m, K, B', d', rfl, hm, hI⟩ := hrel
          clear H0
          obtain ⟨_, _, e9, hbl9, hcb⟩ := (HA.out.below hI.bel) (by omega)
          obtain ⟨rfl, rfl⟩ : b = _ ∧ off = _ := by injection e9 with e9; injection e9 with e91 e92; exact ⟨e91, e92⟩
          obtain ⟨⟨z0, z1, z2, z3, z4, z5⟩, hrs2⟩ := hcb k _ HXX.out
          dsimp only at z0 z1 z2 z3 z4 z5 hrs2
          rw [hk6] at z0 z1 z2 z3 z4 z5
          have HI := Lib.hid hI
          by_cases hml : m < R.length
          · obtain ⟨y, hy⟩ : ∃ y, R[m]? = some y := ⟨_, List.getElem?_eq_getElem hml⟩
            obtain ⟨b3, off3, rfl, hbl3, hc3⟩ := hrs2 (by omega)
            obtain ⟨⟨p0, p1, p2, p3, p4, p5, p6⟩, _⟩ := hc3 m y hy
            have HY := Lib.hid hy
            have hmi : (m : Int) < (R.length : Int) := by omega
            have hm0 : (0 : Int) ≤ (m : Int) := by omega
            have HDD := Lib.hid (fun (bb : Bool) (hb : y.1.bare = false) (hq : bb = true ↔ LaterP L k m y.1.key) => drop_doc (before := before) HXX.out hy hb hq)
            obtain ⟨⟨pl, tm, ba, ky, gn, va, hs⟩, hA2, hcc⟩ := y
            dsimp only at *
            have hal : Below wr.heap.size wr (wr.alloc (.cells #[.int .i64 pl, .int .i64 tm, .bool ba, .string ky, .bool gn, .string va, .slice hA2 hs.length hcc] 39)) := (Below.refl _ _).alloc (Nat.le_refl _) _
            have HI1 := Lib.hid (HI.out.later hal)
            have HR1 := Lib.hid (Box.new wr 39 #[.int .i64 pl, .int .i64 tm, .bool ba, .string ky, .bool gn, .string va, .slice hA2 hs.length hcc])
            have lc := later_c L (some ⟨b, off, none⟩) c (wr.alloc (.cells #[.int .i64 pl, .int .i64 tm, .bool ba, .string ky, .bool gn, .string va, .slice hA2 hs.length hcc] 39)) (HA.out.below HI1.out.bel) hl HR.out k m _ _ HXX.out HY.out
            dsimp only at lc
            clear hI hcb hc3 hy hal e9 hbl9
            generalize hm7 : m * 7 = m7 at *
            cases ba with
            | true =>
              have HDQ : Hid (dropQ F k before m ⟨pl, tm, true, ky, gn, va, hs⟩ = false) := Lib.hid (drop_bare rfl)
              obtain ⟨wx, hwx⟩ : ∃ wx, wr.alloc (.cells #[.int .i64 pl, .int .i64 tm, .bool true, .string ky, .bool gn, .string va, .slice hA2 hs.length hcc] 39) = wx := ⟨_, rfl⟩
              have HI2 := HI1
              have HRX := HR1
              rw [hwx] at HI2 HRX
              clear lc
              obtain ⟨A7, c7, w7, r7, f7, l7, y7, hS7⟩ := HI2.out.keep HY.out HDQ.out (HHD.out m _ HY.out) (by omega) HG.out (fun j hj => Nat.ne_of_lt (HRB.out j hj)) HOLD.out
              have HS7 := Lib.hid hS7
              obtain ⟨u0, u1, u2, u3, u4, u5, u6⟩ : wx.cell? ⟨wr.heap.size, 0, none⟩ = some (.int .i64 pl) ∧ wx.cell? ⟨wr.heap.size, 1, none⟩ = some (.int .i64 tm) ∧ wx.cell? ⟨wr.heap.size, 2, none⟩ = some (.bool true) ∧ wx.cell? ⟨wr.heap.size, 3, none⟩ = some (.string ky) ∧ wx.cell? ⟨wr.heap.size, 4, none⟩ = some (.bool gn) ∧ wx.cell? ⟨wr.heap.size, 5, none⟩ = some (.string va) ∧ wx.cell? ⟨wr.heap.size, 6, none⟩ = some (.slice hA2 hs.length hcc) := ⟨(HRX.out.cell 0).trans rfl, (HRX.out.cell 1).trans rfl, (HRX.out.cell 2).trans rfl, (HRX.out.cell 3).trans rfl, (HRX.out.cell 4).trans rfl, (HRX.out.cell 5).trans rfl, (HRX.out.cell 6).trans rfl⟩
              have y5 := (HI2.out.box.cell 5).trans (show _ = some (Value.slice B' K.length d') from rfl)
              have lg := HI2.out.box.lt
              have lr := HRX.out.lt
              unfold recC at r7
              dsimp only at r7
              clear hS7
              go_wp2_with (at_builtin; refine wpList_append_run rfl (.tmp 73) (.tmp 75) 27 rfl _ _ _ rfl rfl r7 ?_)
              refine ⟨⟨m + 1, K ++ [(⟨pl, tm, true, ky, gn, va, hs⟩, hA2, hcc)], A7, c7, by go_num, hml, HS7.out⟩, by simp [intOf]; omega⟩
            | false =>
              go_wp2_with fail
              (with_reducible refine lc.mono ?_)
              rintro e wx ⟨bb, rfl, hbb, hb2⟩
              have HI2 := Lib.hid (HI1.out.later hb2)
              have HRX := Lib.hid (HR1.out.later hb2)
              have hdd := drop_doc (before := before) HXX.out HY.out rfl hbb
              rw [HF.out.1] at hdd
              dsimp only at hdd
              clear lc hbb hb2
              cases bb with
              | true =>
                have HDQ : Hid (dropQ F k before m ⟨pl, tm, false, ky, gn, va, hs⟩ = true) := Lib.hid (by rw [hdd]; rfl)
                clear hdd
                go_wp2_with fail
                go_roundw
                case rel => exact ⟨m + 1, K, B', d', by go_num, hml, HI2.out.drop HY.out HDQ.out⟩
                case measure => simp [intOf]; omega
              | false =>
                cases gn with
                | false =>
                  have HDQ : Hid (dropQ F k before m ⟨pl, tm, false, ky, false, va, hs⟩ = false) := Lib.hid (by rw [hdd]; rfl)
                  clear hdd
                  obtain ⟨A7, c7, w7, r7, f7, l7, y7, hS7⟩ := HI2.out.keep HY.out HDQ.out (HHD.out m _ HY.out) (by omega) HG.out (fun j hj => Nat.ne_of_lt (HRB.out j hj)) HOLD.out
                  have HS7 := Lib.hid hS7
                  obtain ⟨u0, u1, u2, u3, u4, u5, u6⟩ : wx.cell? ⟨wr.heap.size, 0, none⟩ = some (.int .i64 pl) ∧ wx.cell? ⟨wr.heap.size, 1, none⟩ = some (.int .i64 tm) ∧ wx.cell? ⟨wr.heap.size, 2, none⟩ = some (.bool false) ∧ wx.cell? ⟨wr.heap.size, 3, none⟩ = some (.string ky) ∧ wx.cell? ⟨wr.heap.size, 4, none⟩ = some (.bool false) ∧ wx.cell? ⟨wr.heap.size, 5, none⟩ = some (.string va) ∧ wx.cell? ⟨wr.heap.size, 6, none⟩ = some (.slice hA2 hs.length hcc) := ⟨(HRX.out.cell 0).trans rfl, (HRX.out.cell 1).trans rfl, (HRX.out.cell 2).trans rfl, (HRX.out.cell 3).trans rfl, (HRX.out.cell 4).trans rfl, (HRX.out.cell 5).trans rfl, (HRX.out.cell 6).trans rfl⟩
                  have y5 := (HI2.out.box.cell 5).trans (show _ = some (Value.slice B' K.length d') from rfl)
                  have lg := HI2.out.box.lt
                  have lr := HRX.out.lt
                  unfold recC at r7
                  dsimp only at r7
                  clear hS7
                  go_wp2_with (at_builtin; refine wpList_append_run rfl (.tmp 73) (.tmp 75) 27 rfl _ _ _ rfl rfl r7 ?_)
                  refine ⟨⟨m + 1, K ++ [(⟨pl, tm, false, ky, false, va, hs⟩, hA2, hcc)], A7, c7, by go_num, hml, HS7.out⟩, by simp [intOf]; omega⟩
                | true =>
                  by_cases htm : tm < before
                  · have HDQ : Hid (dropQ F k before m ⟨pl, tm, false, ky, true, va, hs⟩ = true) := Lib.hid (by rw [hdd, decide_eq_true htm]; rfl)
                    have u1 : wx.cell? ⟨wr.heap.size, 1, none⟩ = some (.int .i64 tm) := (HRX.out.cell 1).trans rfl
                    have u4 : wx.cell? ⟨wr.heap.size, 4, none⟩ = some (.bool true) := (HRX.out.cell 4).trans rfl
                    have lr := HRX.out.lt
                    clear hdd
                    go_wp2_with fail
                    go_roundw
                    case rel => exact ⟨m + 1, K, B', d', by go_num, hml, HI2.out.drop HY.out HDQ.out⟩
                    case measure => simp [intOf]; omega
                  · have HDQ : Hid (dropQ F k before m ⟨pl, tm, false, ky, true, va, hs⟩ = false) := Lib.hid (by rw [hdd, decide_eq_false htm]; rfl)
                    clear hdd
                    obtain ⟨A7, c7, w7, r7, f7, l7, y7, hS7⟩ := HI2.out.keep HY.out HDQ.out (HHD.out m _ HY.out) (by omega) HG.out (fun j hj => Nat.ne_of_lt (HRB.out j hj)) HOLD.out
                    have HS7 := Lib.hid hS7
                    obtain ⟨u0, u1, u2, u3, u4, u5, u6⟩ : wx.cell? ⟨wr.heap.size, 0, none⟩ = some (.int .i64 pl) ∧ wx.cell? ⟨wr.heap.size, 1, none⟩ = some (.int .i64 tm) ∧ wx.cell? ⟨wr.heap.size, 2, none⟩ = some (.bool false) ∧ wx.cell? ⟨wr.heap.size, 3, none⟩ = some (.string ky) ∧ wx.cell? ⟨wr.heap.size, 4, none⟩ = some (.bool true) ∧ wx.cell? ⟨wr.heap.size, 5, none⟩ = some (.string va) ∧ wx.cell? ⟨wr.heap.size, 6, none⟩ = some (.slice hA2 hs.length hcc) := ⟨(HRX.out.cell 0).trans rfl, (HRX.out.cell 1).trans rfl, (HRX.out.cell 2).trans rfl, (HRX.out.cell 3).trans rfl, (HRX.out.cell 4).trans rfl, (HRX.out.cell 5).trans rfl, (HRX.out.cell 6).trans rfl⟩
                    have y5 := (HI2.out.box.cell 5).trans (show _ = some (Value.slice B' K.length d') from rfl)
                    have lg := HI2.out.box.lt
                    have lr := HRX.out.lt
                    unfold recC at r7
                    dsimp only at r7
                    clear hS7
                    go_wp2_with (at_builtin; refine wpList_append_run rfl (.tmp 73) (.tmp 75) 27 rfl _ _ _ rfl rfl r7 ?_)
                    refine ⟨⟨m + 1, K ++ [(⟨pl, tm, false, ky, true, va, hs⟩, hA2, hcc)], A7, c7, by go_num, hml, HS7.out⟩, by simp [intOf]; omega⟩
          · have hmi : ¬ (m : Int) < (R.length : Int) := by omega
            have hsame : K.map (·.1) = keepL (dropQ F k before) 0 (R.map (·.1)) := by
              have := hI.same
              rwa [List.take_of_length_le (by rw [List.length_map]; omega)] at this
            have HSM := Lib.hid hsame
            have y5 := (hI.box.cell 5).trans (show _ = some (Value.slice B' K.length d') from rfl)
            obtain ⟨v0, v1, v2, v3, v4, v5⟩ := box_six hI.box
            have lg := hI.box.lt
            obtain ⟨A8, c8, w8, r8, hS8, hW8⟩ := hI.bts.app hI.bel (y := (⟨base, span, prod, epoch, seq⟩, K, B', d')) (hI.ke.rowI (by have := HG.out; omega)) (by omega)
            have HS8 := Lib.hid (And.intro hS8 hW8)
            have HPL := Lib.hid (prod_last HXX.out)
            have lc := last_c L (some ⟨b, off, none⟩) c wr (HA.out.below hI.bel) hl k _ HXX.out
            have HB9 := Lib.hid (And.intro hI.bts hI.bel)
            have HBX := Lib.hid hI.box
            have HKR := Lib.hid (hI.ke.rowI (by have := HG.out; omega))
            rw [HF.out.2] at HPL
            unfold bnC at r8
            dsimp only at r8 lc
            clear hI hcb e9 hbl9 hrs2 hsame hS8 hW8
            by_cases hlen : 0 < K.length
            · have hlen' : (0 : Int) < (K.length : Int) := by omega
              clear lc
              go_wp2_with (at_builtin; refine wpList_append_run rfl (.tmp 87) (.tmp 89) 22 rfl _ _ _ rfl rfl r8 ?_)
              refine ⟨⟨k + 1, M ++ [(⟨base, span, prod, epoch, seq⟩, K, B', d')], A8, c8, by rw [List.length_append]; rfl, by go_num, hkl, by rw [List.length_append]; show M.length + 1 ≤ _; omega, ?_, by rw [List.length_append]; exact HS8.out.1, HS8.out.2⟩, by simp [intOf]; omega⟩
              rw [HST.out, List.map_append, HM.out, clnB_keep (x := BX.told (⟨base, span, prod, epoch, seq⟩, R, RA, rc)) (Int.not_lt.2 HUP.out) (K := K.map (·.1)) HSM.out (.inl (by rw [List.length_map]; exact hlen))]
              rfl
            · have hlen' : ¬ (0 : Int) < (K.length : Int) := by omega
              have HLN := Lib.hid (show ¬ 0 < (K.map (·.1)).length by rw [List.length_map]; exact hlen)
              clear r8 hlen'
              obtain rfl : K = [] := List.eq_nil_of_length_eq_zero (by omega)
              clear hlen
              dsimp only [List.length_nil] at v5 y5
              go_wp2_with fail
              (with_reducible refine lc.mono ?_)
              rintro e wz ⟨bb, rfl, hbb, hb2⟩
              have HZ := Lib.hid (And.intro (HB9.out.1.later hb2) (HB9.out.2.trans (hb2.mono HB9.out.2.size)))
              cases bb with
              | true =>
                have HQ2 := Lib.hid (HPL.out.2 (hbb.1 rfl))
                obtain ⟨A9, c9, w9, r9, hS9, hW9⟩ := HZ.out.1.app HZ.out.2 (y := (⟨base, span, prod, epoch, seq⟩, ([] : List RX), B', d')) (HKR.out.later hb2) (by omega)
                have HS9 := Lib.hid (And.intro hS9 hW9)
                have hbz := HBX.out.later hb2
                obtain ⟨t0, t1, t2, t3, t4, t5⟩ := box_six hbz
                have lz := hbz.lt
                unfold bnC at r9
                dsimp only [List.length_nil] at r9 t5
                clear lc hbb hb2 hS9 hW9 hbz
                go_wp2_with (at_builtin; refine wpList_append_run rfl (.tmp 87) (.tmp 89) 22 rfl _ _ _ rfl rfl r9 ?_)
                refine ⟨⟨k + 1, M ++ [(⟨base, span, prod, epoch, seq⟩, ([] : List RX), B', d')], A9, c9, by rw [List.length_append]; rfl, by go_num, hkl, by rw [List.length_append]; show M.length + 1 ≤ _; omega, ?_, by rw [List.length_append]; exact HS9.out.1, HS9.out.2⟩, by simp [intOf]; omega⟩
                rw [HST.out, List.map_append, HM.out, clnB_keep (x := BX.told (⟨base, span, prod, epoch, seq⟩, R, RA, rc)) (Int.not_lt.2 HUP.out) (K := ([] : List RX).map (·.1)) HSM.out (.inr HQ2.out)]
                rfl
              | false =>
                have HQ2 : Hid (¬ (0 ≤ prod ∧ Pr.atH (Pr.ofId P prod) = (k : Int))) := Lib.hid (fun hq => by have := hbb.2 (HPL.out.1 hq); cases this)
                clear lc hbb hb2
                go_wp2_with fail
                refine ⟨⟨k + 1, M, B, d, rfl, by go_num, hkl, by omega, ?_, HZ.out.1, HZ.out.2⟩, by simp [intOf]; omega⟩
                rw [HST.out, HM.out, clnB_drop (x := BX.told (⟨base, span, prod, epoch, seq⟩, R, RA, rc)) (Int.not_lt.2 HUP.out) (K := ([] : List RX).map (·.1)) HSM.out HLN.out HQ2.out, List.append_nil]
    · have hki : ¬ (k : Int) < (L.length : Int) := by omega
      rw [List.take_of_length_le (by rw [List.length_map]; omega), ← HF.out.1, ← HF.out.2] at hM
      have HFin : Hid (CleanedI W (clnL (lastF (L.map bxR)) (prdF 0 (L.map (·.1)) []) upto before 0 (L.map BX.told)) (.returned (.slice B M.length d)) wr) := Lib.hid ⟨M, B, d, hM, rfl, hS, hbw⟩
      clear hS hM hbw
      go_wp2_with fail
      go_ret
      exact HFin.out
end Go.Proofs.YtdclkhbolmbnmaaDoor
