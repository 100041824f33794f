/- Merged texts. What each proves is told at its head. -/
import Derived.Test.YtjnphajkoopkgaaGreatDoorUD
import Derived.Test.YtjnphajkoopkgaaGreatDoorUE
import Derived.Test.YtjnphajkoopkgaaGreatDoorRTake
import Derived.Deep.RegionHeld3
import Derived.Deep.DeepCutAuto
/- The document's Encode of a record by a contract. -/
namespace Go.Proofs.YtjnphajkoopkgaaGreatDoor
open Go.RowKit
set_option linter.unusedVariables false
theorem recS_later {W w w' : World} {place time : Int} {key value : ByteArray} {A : Option Addr} {n c : Nat}
    (h : w.cell? ⟨W.heap.size, 0, none⟩ = some (.int .i64 place) ∧ w.cell? ⟨W.heap.size, 1, none⟩ = some (.int .i64 time) ∧ w.cell? ⟨W.heap.size, 3, none⟩ = some (.string key) ∧ w.cell? ⟨W.heap.size, 5, none⟩ = some (.string value) ∧ w.cell? ⟨W.heap.size, 6, none⟩ = some (.slice A n c) ∧ W.heap.size < w.heap.size ∧ Below W.heap.size W w)
    (hb : Below w.heap.size w w') :
    w'.cell? ⟨W.heap.size, 0, none⟩ = some (.int .i64 place) ∧ w'.cell? ⟨W.heap.size, 1, none⟩ = some (.int .i64 time) ∧ w'.cell? ⟨W.heap.size, 3, none⟩ = some (.string key) ∧ w'.cell? ⟨W.heap.size, 5, none⟩ = some (.string value) ∧ w'.cell? ⟨W.heap.size, 6, none⟩ = some (.slice A n c) ∧ W.heap.size < w'.heap.size ∧ Below W.heap.size W w' := by
  obtain ⟨h0, h1, h3, h5, h6, h7, h8⟩ := h
  have k := fun j => hb.cell (p := ⟨W.heap.size, j, none⟩) h7
  exact ⟨(k 0).trans h0, (k 1).trans h1, (k 3).trans h3, (k 5).trans h5, (k 6).trans h6, Nat.lt_of_lt_of_le h7 hb.size, h8.trans (hb.mono (Nat.le_of_lt h7))⟩
theorem recH_later {W w w' : World} {b off k : Nat} {x y : ByteArray} {n c : Nat}
    (h : w.cell? ⟨W.heap.size, 6, none⟩ = some (.slice (some ⟨b, off, none⟩) n c) ∧ w.cell? ⟨b, off + k * 2, none⟩ = some (.string x) ∧ w.cell? ⟨b, off + k * 2 + 1, none⟩ = some (.string y) ∧ b < w.heap.size ∧ W.heap.size < w.heap.size ∧ Below W.heap.size W w)
    (hb : Below w.heap.size w w') :
    w'.cell? ⟨W.heap.size, 6, none⟩ = some (.slice (some ⟨b, off, none⟩) n c) ∧ w'.cell? ⟨b, off + k * 2, none⟩ = some (.string x) ∧ w'.cell? ⟨b, off + k * 2 + 1, none⟩ = some (.string y) ∧ b < w'.heap.size ∧ W.heap.size < w'.heap.size ∧ Below W.heap.size W w' := by
  obtain ⟨h0, h1, h2, h3, h7, h8⟩ := h
  exact ⟨(hb.cell (p := ⟨W.heap.size, 6, none⟩) h7).trans h0, (hb.cell (p := ⟨b, off + k * 2, none⟩) h3).trans h1, (hb.cell (p := ⟨b, off + k * 2 + 1, none⟩) h3).trans h2, Nat.lt_of_lt_of_le h3 hb.size, Nat.lt_of_lt_of_le h7 hb.size, h8.trans (hb.mono (Nat.le_of_lt h7))⟩
theorem recH_out {W w : World} {b off k : Nat} {x y : ByteArray} {n c : Nat}
    (h : w.cell? ⟨W.heap.size, 6, none⟩ = some (.slice (some ⟨b, off, none⟩) n c) ∧ w.cell? ⟨b, off + k * 2, none⟩ = some (.string x) ∧ w.cell? ⟨b, off + k * 2 + 1, none⟩ = some (.string y) ∧ b < w.heap.size ∧ W.heap.size < w.heap.size ∧ Below W.heap.size W w) :
    w.cell? ⟨W.heap.size, 6, none⟩ = some (.slice (some ⟨b, off, none⟩) n c) ∧ W.heap.size < w.heap.size ∧ Below W.heap.size W w := ⟨h.1, h.2.2.2.2.1, h.2.2.2.2.2⟩
theorem headsG_succ {hs : List Hd} {k : Nat} (hk : k < hs.length) (G : ByteArray) : G ++ ⟨(headsL (hs.take (k + 1))).toArray⟩ = G ++ ⟨(headsL (hs.take k)).toArray⟩ ++ textG hs[k].1 ++ textG hs[k].2 := by
  rw [headsL_take_succ hk]
  apply ByteArray.ext
  simp [← txt_textG]
set_option maxHeartbeats 4000000 in
set_option maxRecDepth 100000 in
theorem renc_good (r : Rec) (A : Option Addr) (c : Nat) (W : World) (hR : RIn W r A c) (h : okRec r = true) :
    Calls Tryz.prog 129 #[recV r A c] W (Good W (.tuple #[.string (encR r), .int .i64 0])) := by
  have hc := rcheck_c r A c (W.alloc (.cells (recC r A c) 85)) (hR.below ((Below.refl _ _).alloc (Nat.le_refl _) _))
  rw [show recE r = 0 by unfold recE; rw [h]; rfl] at hc
  obtain ⟨⟨p0, p1, t0, t1⟩, ⟨k1, v1⟩, m1, ha⟩ := okRec_parts h
  have c1 := fun w => rput_c r.place w (by omega) (by omega)
  have c2 := fun w => rput_c r.time w (by omega) (by omega)
  have c3 := fun w => rput_c (marks r.bare r.gone) w (by have := marks_cases r.bare r.gone; omega) (by have := marks_cases r.bare r.gone; omega)
  have c4 := fun w => rtext_c r.key w (by omega)
  have c5 := fun w => rtext_c r.value w (by omega)
  have c6 := fun w => rput_c (r.heads.length : Int) w (by omega) (by omega)
  have HH := Lib.hid hR.heads
  have HA := Lib.hid ha
  have HM : Hid (marks r.bare r.gone = (if r.bare then 1 else 0) + (if r.gone then 2 else 0)) := Lib.hid rfl
  clear h hR ha
  have HE : Hid (encR r = ⟨(putL r.place).toArray⟩ ++ ⟨(putL r.time).toArray⟩ ++ ⟨(putL (marks r.bare r.gone)).toArray⟩ ++ textG r.key ++ textG r.value ++ ⟨(putL r.heads.length).toArray⟩ ++ ⟨(headsL r.heads).toArray⟩) := Lib.hid (by
    apply ByteArray.ext
    simp [encR, encL, ← txt_textG])
  have z1 : (⟨(putL r.place).toArray⟩ : ByteArray).size ≤ 10 := put_size _
  have z2 : (⟨(putL r.time).toArray⟩ : ByteArray).size ≤ 10 := put_size _
  have z3 : (⟨(putL (marks r.bare r.gone)).toArray⟩ : ByteArray).size ≤ 10 := put_size _
  have z4 : (textG r.key).size ≤ 2000 := by have := textG_size r.key; have := txt_le r.key; omega
  have z5 : (textG r.value).size ≤ 2000 := by have := textG_size r.value; have := txt_le r.value; omega
  have z6 : (⟨(putL r.heads.length).toArray⟩ : ByteArray).size ≤ 10 := put_size _
  generalize encR r = res at *
  obtain ⟨place, time, bare, key, gone, value, heads⟩ := r
  simp only at *
  generalize marks bare gone = mk at *
  generalize (⟨(putL place).toArray⟩ : ByteArray) = g1 at *
  generalize (⟨(putL time).toArray⟩ : ByteArray) = g2 at *
  generalize (⟨(putL mk).toArray⟩ : ByteArray) = g3 at *
  generalize textG key = g4 at *
  generalize textG value = g5 at *
  generalize (⟨(putL (heads.length : Int)).toArray⟩ : ByteArray) = g6 at *
  have a2 := add_run (P := Tryz.prog) z1 z2 (by decide)
  have b2 := cat_le z1 z2
  have a3 := add_run (P := Tryz.prog) b2 z3 (by decide)
  have b3 := cat_le b2 z3
  have a4 := add_run (P := Tryz.prog) b3 z4 (by decide)
  have b4 := cat_le b3 z4
  have a5 := add_run (P := Tryz.prog) b4 z5 (by decide)
  have b5 := cat_le b4 z5
  have a6 := add_run (P := Tryz.prog) b5 z6 (by decide)
  have b6 := cat_le b5 z6
  unfold recV recC at *
  simp only at *
  clear z1 z2 z3 z4 z5 z6
  have hmk : (bare = false ∧ gone = false ∧ mk = 0) ∨ (bare = true ∧ gone = false ∧ mk = 1) ∨ (bare = false ∧ gone = true ∧ mk = 2) ∨ (bare = true ∧ gone = true ∧ mk = 3) := by
    have h := HM.out
    cases bare <;> cases gone <;> simp at h <;> simp [h]
  clear HM
  have HMK := Lib.hid hmk
  clear hmk
  go_enter Tryz.func129, Tryz.ntmps129
  go_wp2_with fail
  (with_reducible refine hc.mono ?_)
  rintro e w1 ⟨rfl, hb1⟩
  have HB1 := (Box.new W 85 #[.int .i64 place, .int .i64 time, .bool bare, .string key, .bool gone, .string value, .slice A heads.length c]).later hb1
  obtain ⟨x0, x1, x2, x3, x4, x5, x6⟩ := recC_at (r := ⟨place, time, bare, key, gone, value, heads⟩) (A := A) (c := c) HB1
  have hl1 := HB1.lt
  have hbel : Below W.heap.size W w1 := ((Below.refl _ _).alloc (Nat.le_refl _) _).trans (hb1.mono (by simp))
  have HS := Lib.hid (And.intro x0 (And.intro x1 (And.intro x3 (And.intro x5 (And.intro x6 (And.intro hl1 hbel))))))
  simp only at x0 x1 x2 x3 x4 x5 x6
  clear hb1 HB1 hc
  obtain ⟨mb, hmb⟩ : ∃ mb : Int, mb = if bare then 1 else 0 := ⟨_, rfl⟩
  have HMB := Lib.hid hmb
  clear hmb
  go_upto_if 14 with (fail)
  go_cut [5] (fun f w => f = .int .i64 mb ∧ w1 = w)
  case first =>
    have h := HMB.out
    cases bare <;> simp at h <;> subst h
    all_goals go_wp2_with fail
    all_goals go_meet
    all_goals exact ⟨rfl, rfl⟩
  case rest =>
    obtain ⟨rfl, rfl⟩ := hcut
    go_upto_if 16 with (fail)
    go_cut [5] (fun f w => f = .int .i64 mk ∧ w1 = w)
    case first =>
      have h := HMB.out
      rcases HMK.out with ⟨rfl, rfl, rfl⟩ | ⟨rfl, rfl, rfl⟩ | ⟨rfl, rfl, rfl⟩ | ⟨rfl, rfl, rfl⟩
      all_goals simp at h
      all_goals subst h
      all_goals go_wp2_with fail
      all_goals go_meet
      all_goals exact ⟨rfl, rfl⟩
    case rest =>
      obtain ⟨rfl, rfl⟩ := hcut
      have hS := HS.out
      clear x0 x1 x2 x3 x4 x5 x6 HMK HMB
      go_upto_region 9 with fail
      go_cut [6] (fun f w => f = .string (g1 ++ g2 ++ g3 ++ g4 ++ g5 ++ g6) ∧ w.cell? ⟨W.heap.size, 0, none⟩ = some (.int .i64 place) ∧ w.cell? ⟨W.heap.size, 1, none⟩ = some (.int .i64 time) ∧ w.cell? ⟨W.heap.size, 3, none⟩ = some (.string key) ∧ w.cell? ⟨W.heap.size, 5, none⟩ = some (.string value) ∧ w.cell? ⟨W.heap.size, 6, none⟩ = some (.slice A heads.length c) ∧ W.heap.size < w.heap.size ∧ Below W.heap.size W w)
      case first =>
        go_region_held3 (fun w => w.cell? ⟨W.heap.size, 0, none⟩ = some (.int .i64 place) ∧ w.cell? ⟨W.heap.size, 1, none⟩ = some (.int .i64 time) ∧ w.cell? ⟨W.heap.size, 3, none⟩ = some (.string key) ∧ w.cell? ⟨W.heap.size, 5, none⟩ = some (.string value) ∧ w.cell? ⟨W.heap.size, 6, none⟩ = some (.slice A heads.length c) ∧ W.heap.size < w.heap.size ∧ Below W.heap.size W w)
          (first | exact recS_later hS ((Below.refl _ _).drew) | exact recS_later (by assumption) (by assumption))
          (first
            | ((with_reducible refine (c1 _).mono ?_); rintro e w2 ⟨rfl, hb2⟩)
            | ((with_reducible refine (c2 _).mono ?_); rintro e w2 ⟨rfl, hb2⟩)
            | ((with_reducible refine (c3 _).mono ?_); rintro e w2 ⟨rfl, hb2⟩)
            | ((with_reducible refine (c4 _).mono ?_); rintro e w2 ⟨rfl, hb2⟩)
            | ((with_reducible refine (c5 _).mono ?_); rintro e w2 ⟨rfl, hb2⟩)
            | ((with_reducible refine (c6 _).mono ?_); rintro e w2 ⟨rfl, hb2⟩))
        all_goals go_wp2_with fail
        all_goals go_meet
        all_goals exact ⟨rfl, by assumption⟩
      case rest =>
        clear hS HS c1 c2 c3 c4 c5 c6 a2 a3 a4 a5 a6 b2 b3 b4 b5 hl1 hbel
        generalize g1 ++ g2 ++ g3 ++ g4 ++ g5 ++ g6 = G at *
        obtain ⟨rfl, _, _, _, _, hx6, hxl, hxb⟩ := hcut
        go_wp2_with fail
        have h00 : G = G ++ ⟨(headsL (heads.take 0)).toArray⟩ := by
          apply ByteArray.ext
          simp [headsL]
        have H00 := Lib.hid h00
        clear h00
        go_loopw [6, 7] (fun st i wr => ∃ k : Nat, i = .int .i64 k ∧ k ≤ heads.length ∧ st = .string (G ++ ⟨(headsL (heads.take k)).toArray⟩) ∧ wr.cell? ⟨W.heap.size, 6, none⟩ = some (.slice A heads.length c) ∧ W.heap.size < wr.heap.size ∧ Below W.heap.size W wr) (fun _ i _ => heads.length - (intOf i).toNat)
        case atStart => exact ⟨0, rfl, Nat.zero_le _, congrArg Value.string H00.out, hx6, hxl, hxb⟩
        case round =>
          obtain ⟨k, rfl, hkl, rfl, y6, yl, yb⟩ := hrel
          clear hx6 hxl hxb H00
          by_cases hk : k < heads.length
          · obtain ⟨b, off, rfl, hbl, q1, q2⟩ := (HH.out.below yb).at_ hk
            have hok := List.all_eq_true.1 HA.out _ (List.getElem_mem hk)
            simp only [okHead, decide_eq_true_eq] at hok
            have hle := headsL_le (heads.take k) (by rw [List.all_eq_true]; exact fun x hx => List.all_eq_true.1 HA.out x (List.mem_of_mem_take hx))
            rw [List.length_take] at hle
            obtain ⟨o1, o2, o3⟩ := hok
            have t1 := fun w => rtext_c heads[k].1 w (by omega)
            have t2 := fun w => rtext_c heads[k].2 w (by omega)
            have Z1 : (textG heads[k].1).size ≤ 2000 := by have := textG_size heads[k].1; have := txt_le heads[k].1; omega
            have Z2 : (textG heads[k].2).size ≤ 2000 := by have := textG_size heads[k].2; have := txt_le heads[k].2; omega
            have HS1 := Lib.hid (headsG_succ hk G)
            have zl : (⟨(headsL (heads.take k)).toArray⟩ : ByteArray).size ≤ 30000 := by
              show (headsL (heads.take k)).length ≤ _
              have : min k heads.length ≤ 10 := by omega
              omega
            have zg := cat_le b6 zl
            generalize textG heads[k].1 = gk at *
            generalize textG heads[k].2 = gv at *
            generalize heads[k].1 = hk1 at *
            generalize heads[k].2 = hk2 at *
            generalize G ++ ⟨(headsL (heads.take k)).toArray⟩ = X at *
            have a1 := add_run (P := Tryz.prog) zg Z1 (by decide)
            have zg2 := cat_le zg Z1
            have a2 := add_run (P := Tryz.prog) zg2 Z2 (by decide)
            have hki : (k : Int) < (heads.length : Int) := by omega
            clear hle zl zg zg2 Z1 Z2 o1 o2 o3
            have hS := And.intro y6 (And.intro q1 (And.intro q2 (And.intro hbl (And.intro yl yb))))
            go_wp2_with fail
            go_region_held3 (fun w => w.cell? ⟨W.heap.size, 6, none⟩ = some (.slice (some ⟨b, off, none⟩) heads.length c) ∧ w.cell? ⟨b, off + k * 2, none⟩ = some (.string hk1) ∧ w.cell? ⟨b, off + k * 2 + 1, none⟩ = some (.string hk2) ∧ b < w.heap.size ∧ W.heap.size < w.heap.size ∧ Below W.heap.size W w)
              (first | exact recH_later hS ((Below.refl _ _).drew) | exact recH_later (by assumption) (by assumption))
              (first
                | ((with_reducible refine (t1 _).mono ?_); rintro e w2 ⟨rfl, hb2⟩)
                | ((with_reducible refine (t2 _).mono ?_); rintro e w2 ⟨rfl, hb2⟩))
            all_goals
              clear hS y6 yl yb t1 t2 a1 a2
              go_wp2
              go_roundw
              case rel => exact ⟨k + 1, by go_num, hk, congrArg Value.string HS1.out.symm, recH_out (by assumption)⟩
              case measure => simp [intOf]; omega
          · have hF : Hid (res = G ++ ⟨(headsL (heads.take k)).toArray⟩) := Lib.hid (by rw [HE.out, List.take_of_length_le (by omega)])
            generalize G ++ ⟨(headsL (heads.take k)).toArray⟩ = X at *
            go_wp2
            go_ret2
            exact ⟨by rw [hF.out]; rfl, yb⟩
set_option maxHeartbeats 4000000 in
set_option maxRecDepth 100000 in
theorem renc_bad (r : Rec) (A : Option Addr) (c : Nat) (W : World) (hR : RIn W r A c) (h : okRec r = false) :
    Calls Tryz.prog 129 #[recV r A c] W (Good W (.tuple #[.string ⟨#[]⟩, .int .i64 1])) := by
  have hc := rcheck_c r A c (W.alloc (.cells (recC r A c) 85)) (hR.below ((Below.refl _ _).alloc (Nat.le_refl _) _))
  rw [show recE r = 1 by unfold recE; rw [h]; rfl] at hc
  clear h hR
  unfold recV recC at *
  go_enter Tryz.func129, Tryz.ntmps129
  go_wp2_with ((with_reducible refine hc.mono ?_); rintro e w1 ⟨rfl, hb1⟩)
  go_ret2
  exact ⟨rfl, ((Below.refl _ _).alloc (Nat.le_refl _) _).trans (hb1.mono (by simp))⟩
theorem renc_c (r : Rec) (A : Option Addr) (c : Nat) (W : World) (hR : RIn W r A c) :
    Calls Tryz.prog 129 #[recV r A c] W (Good W (.tuple #[.string (if okRec r = true then encR r else ⟨#[]⟩), .int .i64 (recE r)])) := by
  cases h : okRec r with
  | true =>
    rw [if_pos rfl, show recE r = 0 by unfold recE; rw [h]; rfl]
    exact renc_good r A c W hR h
  | false =>
    rw [if_neg (by decide), show recE r = 1 by unfold recE; rw [h]; rfl]
    exact renc_bad r A c W hR h
end Go.Proofs.YtjnphajkoopkgaaGreatDoor
