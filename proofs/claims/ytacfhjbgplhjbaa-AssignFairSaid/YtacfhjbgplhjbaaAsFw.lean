/- assign: AssignFair, walked. No condition. -/
import Derived.Test.YtacfhjbgplhjbaaAsFm
import Derived.Test.YtacfhjbgplhjbaaAsOne
import Derived.Deep.Cut
import Derived.Deep.CutRange
namespace Go.Proofs.Ytacfhjbgplhjbaa
open Go.RowKit
set_option linter.unusedVariables false
set_option maxHeartbeats 32000000 in
set_option maxRecDepth 100000 in
theorem assignFair_walk (S : List SX) (A : Option Addr) (c : Nat) (T : List TX) (A2 : Option Addr) (c2 : Nat) (W : World) (hS : SbIn W A S) (hl : S.length ≤ 140737488351232) (hz : ∀ x ∈ S, x.2.1.length ≤ 140737488351232) (hT : TpIn W A2 T) (hl2 : T.length ≤ 140737488351232) (hsz : ∀ t ∈ T, t.1.size ≤ 281474976710656) :
    Calls Try.prog 5 #[.slice A S.length c, .slice A2 T.length c2] W (Good W (.bool true)) := by
  have c1 := few_c S A c T A2 c2 W hS hl hl2 hz
  have HS := Lib.hid hS
  have HT := Lib.hid hT
  cases hf : fewB S T with
  | false =>
    rw [hf] at c1
    clear hS hT hz hsz hf
    go_enter Try.func5, Try.ntmps5
    go_wp2_with fail
    with_reducible refine c1.mono ?_
    rintro e w1 ⟨rfl, hb1⟩
    go_wp2_with ((with_reducible refine (live14_c _).mono ?_); rintro e w2 ⟨rfl, hb2⟩)
    go_ret
    exact ⟨rfl, hb1.trans (hb2.mono hb1.size)⟩
  | true =>
    rw [hf] at c1
    have c7 := fun w (hb : Below W.heap.size W w) => check_c S A c T A2 c2 w (HS.out.below hb) (HT.out.below hb) hl hl2 hz
    rcases chk_cases S T with hk | hk
    rotate_left
    · rw [hk] at c7
      clear hS hT hz hsz hf hk
      go_enter Try.func5, Try.ntmps5
      go_wp2_with fail
      with_reducible refine c1.mono ?_
      rintro e w1 ⟨rfl, hb1⟩
      go_wp2_with fail
      with_reducible refine (c7 _ hb1).mono ?_
      rintro e w2 ⟨rfl, hb2⟩
      go_wp2_with ((with_reducible refine (live14_c _).mono ?_); rintro e w3 ⟨rfl, hb3⟩)
      go_ret
      exact ⟨rfl, (hb1.trans (hb2.mono hb1.size)).trans (hb3.mono (Nat.le_trans hb1.size hb2.size))⟩
    have c2' := fun w (hb : Below W.heap.size W w) => range_c S A c T A2 c2 w (HS.out.below hb) (HT.out.below hb) hz hsz hk
    have c4 := fun w (hb : Below W.heap.size W w) => round_c S A c T A2 c2 w (HS.out.below hb) (HT.out.below hb) hz hsz hk
    have hmx := chk_ok hk
    have hokT := (mayT_iff.1 hmx.2).2.1
    have hT16 := fun t ht => (okT_iff.1 (hokT t ht)).2
    have hTl := (mayT_iff.1 hmx.2).1
    have hSl := (mayS_iff.1 hmx.1).1
    have HRI := Lib.hid (mayT_iff.1 hmx.2).2.2
    have ct := fun s w (h : SbIn w A S) => rtakers_c S A c s w h (by omega) hz
    have HOK := Lib.hid hokT
    have HFR := Lib.hid (fun h => fair_round (S := S) hT16 hTl h)
    have HLR := Lib.hid (fun k => by have := rangeD_len (S := S) hT16 T.length (Nat.le_refl _) k; rwa [List.take_length] at this)
    have HLO := Lib.hid (fun k => by have := roundD_len (S := S) hT16 T.length (Nat.le_refl _) k; rwa [List.take_length] at this)
    rw [hk] at c7
    clear hS hT hf hk hz hsz hmx hokT hT16
    go_enter Try.func5, Try.ntmps5
    go_wp2_with fail
    with_reducible refine c1.mono ?_
    rintro e w1 ⟨rfl, hb1⟩
    go_wp2_with fail
    with_reducible refine (c7 _ hb1).mono ?_
    rintro e w2 ⟨rfl, hb2⟩
    have HB2 := Lib.hid (hb1.trans (hb2.mono hb1.size))
    clear hb1 hb2 c1 c7
    go_wp2_with fail
    with_reducible refine (c2' _ HB2.out).mono ?_
    rintro en w6 ⟨A6, d6, R6, rfl, hs6, hm6, hb6⟩
    have HB6 := Lib.hid (HB2.out.trans (hb6.mono HB2.out.size))
    have HI6 := Lib.hid (GotSh.inn hs6 hm6)
    clear hs6 hm6 hb6 c2' HB2
    go_wp2_with fail
    with_reducible refine (c4 _ HB6.out).mono ?_
    rintro en w8 ⟨A8, d8, R8, rfl, hs8, hm8, hb8⟩
    have HB8 := Lib.hid (HB6.out.trans (hb8.mono HB6.out.size))
    have HI8 := Lib.hid (GotSh.inn hs8 hm8)
    have HI68 := Lib.hid (HI6.out.below hb8)
    clear hs8 hm8 hb8 c4 HB6 HI6
    go_wp2_with fail
    go_loopw [9, 10, 11, 12, 13, 14, 15, 16, 17] (fun al i _ _ _ _ _ _ _ wr => ∃ (k : Nat), i = .int .i64 k ∧ k ≤ T.length ∧ al = .bool (allB S (T.take k)) ∧ Below w8.heap.size w8 wr) (fun _ i _ _ _ _ _ _ _ _ => T.length - (intOf i).toNat)
    case atStart => exact ⟨0, rfl, Nat.zero_le _, rfl, Below.refl _ _⟩
    case round =>
      obtain ⟨i, rfl, hil, rfl, hB⟩ := hrel
      have HB := Lib.hid hB
      clear hB
      by_cases hik : i < T.length
      · have hx : T[i]? = some T[i] := List.getElem?_eq_getElem hik
        obtain ⟨b, off, rfl, hlt, y00, y01⟩ := HT.out.at_ hik
        have hok := okT_iff.1 (HOK.out _ (List.getElem_mem hik))
        have HTC := Lib.hid (fun w (h : Below W.heap.size W w) => (h.cell (p := ⟨b, off + i * 2, none⟩) hlt).trans y00)
        have HAB := Lib.hid (allB_succ (S := S) hx)
        have HRW := Lib.hid (fun x m (h : (takersG S T[i].1 S.length)[x]? = some m) => range_row (S := S) HRI.out hx h)
        have hki : (i : Int) < (T.length : Int) := by omega
        have hk0 : (0 : Int) ≤ (i : Int) := by omega
        clear hx y00 y01 hlt
        generalize T[i] = t at *
        obtain ⟨s, n'⟩ := t
        obtain ⟨n, rfl⟩ : ∃ n : Nat, n' = n := ⟨n'.toNat, by simp only at hok; omega⟩
        have hn2 : n ≤ 16 := by simp only at hok; omega
        simp only [Int.toNat_natCast] at HTC HRW HAB
        have HBW := Lib.hid (HB8.out.trans (HB.out.mono HB8.out.size))
        have y0 := HTC.out _ HBW.out
        have c5 := ct s wr (HS.out.below HBW.out)
        go_wp2_with fail
        with_reducible refine c5.mono ?_
        rintro e w3 ⟨A3, c3, rfl, htk, hb3⟩
        have HB3 := Lib.hid (HB.out.trans (hb3.mono HB.out.size))
        have HTK := Lib.hid htk
        have HML := Lib.hid (fun i m => take_le (S := S) (s := s) (i := i) (m := m))
        have hTL := takersG_len S s S.length
        clear hb3 htk c5 y0 HB HBW ct hok
        generalize takersG S s S.length = L at *
        generalize wr.heap.size = h3 at *
        obtain ⟨q, hq⟩ : ∃ q, n / L.length = q := ⟨_, rfl⟩
        have hq16 : q ≤ 16 := by rw [← hq]; exact Nat.le_trans (Nat.div_le_self _ _) hn2
        have HQ : Hid (∀ x m, L[x]? = some m → q ≤ cntN s (rangeD S T m) ∧ cntN s (rangeD S T m) ≤ q + 1) := Lib.hid (fun x m h => by
          rw [HRW.out x m h, ← hq]
          exact ⟨rowN_ge _ _ _, rowN_le _ _ _⟩)
        have HAN : Hid (allB S (T.take (i + 1)) = (allB S (T.take i) && decide ((L.length : Int) = (S.length : Int)))) := Lib.hid (by
          rw [HAB.out]
          congr 1
          rw [Bool.eq_iff_iff, decide_eq_true_eq, decide_eq_true_eq]
          omega)
        clear hq HRW HAB
        generalize allB S (T.take i) = ab at *
        obtain ⟨ab2, hab⟩ : ∃ ab2, (ab && decide ((L.length : Int) = (S.length : Int))) = ab2 := ⟨_, rfl⟩
        have HA2 : Hid (allB S (T.take (i + 1)) = ab2) := Lib.hid (by rw [HAN.out, hab])
        clear HAN
        go_upto_region 12 with fail
        go_cut [9] from 77 to 84 (fun v wx => v = .bool ab2 ∧ w3 = wx)
        case first =>
          cases ab with
          | false =>
            have hab' : ab2 = false := by rw [← hab]; rfl
            subst hab'
            clear hab
            go_wp2_with fail
            go_meet
            exact ⟨rfl, rfl⟩
          | true =>
            by_cases hLS : (L.length : Int) = (S.length : Int)
            · have hab' : ab2 = true := by rw [← hab, decide_eq_true hLS]; rfl
              subst hab'
              clear hab
              go_wp2_with fail
              go_meet
              refine ⟨?_, rfl⟩
              first | rfl | simp
            · have hab' : ab2 = false := by rw [← hab, decide_eq_false hLS]; rfl
              have hLb : ((L.length : Int) == (S.length : Int)) = false := beq_eq_false_iff_ne.2 hLS
              subst hab'
              clear hab
              go_wp2_with fail
              go_meet
              refine ⟨?_, rfl⟩
              first | rfl | simp [hLS] | (simp; omega)
        case rest =>
          obtain ⟨rfl, rfl⟩ := hcut
          clear hab
          go_wp2_with fail
          go_loopw [12, 13, 14, 15, 16, 17] (fun le mo k _ _ _ wr => ∃ (x : Nat) (lv mv : Int), k = .int .i64 x ∧ x ≤ L.length ∧ le = .int .i64 lv ∧ mo = .int .i64 mv ∧ ((q : Int) ≤ lv ∧ lv ≤ 100 ∧ 0 ≤ mv ∧ mv ≤ (q : Int) + 1) ∧ Below w3.heap.size w3 wr) (fun _ _ k _ _ _ _ => L.length - (intOf k).toNat)
          case atStart => exact ⟨0, 100, 0, rfl, Nat.zero_le _, rfl, rfl, ⟨by omega, by omega, by omega, by omega⟩, Below.refl _ _⟩
          case round =>
            obtain ⟨x, lv, mv, rfl, hxl, rfl, rfl, hlm, hB4⟩ := hrel
            have HB4 := Lib.hid hB4
            have HLM := Lib.hid hlm
            clear hB4 hlm
            have HBW := Lib.hid ((HB8.out.trans (HB3.out.mono HB8.out.size)).trans (HB4.out.mono (HB8.out.trans (HB3.out.mono HB8.out.size)).size))
            by_cases hxL : x < L.length
            · obtain ⟨m, hm⟩ : ∃ m, L[x]? = some m := ⟨_, List.getElem?_eq_getElem hxL⟩
              obtain ⟨gt, rfl, hgt, t0⟩ := ints_at (own_below HTK.out HB4.out) hm
              have hmS := HML.out x m hm
              have hqq := HQ.out x m hm
              have hmx : (S.map (·.1))[m]? = some S[m].1 := by simp [hmS]
              obtain ⟨b2, off2, rfl, hlt2, P, cp, _, x01, x02⟩ := (HI68.out.below (HB3.out.trans (HB4.out.mono HB3.out.size))).at_ (shL_at (D := rangeD S T) hmx)
              simp only at x01 x02
              have hxi : (x : Int) < (L.length : Int) := by omega
              have hx0 : (0 : Int) ≤ (x : Int) := by omega
              have hmi : (m : Int) < (S.length : Int) := by omega
              have hm0 : (0 : Int) ≤ (m : Int) := by omega
              have hDl := HLR.out m
              have HX2 := Lib.hid x02
              have HCT := Lib.hid (fun j y (h : (rangeD S T m)[j]? = some y) => cntN_take (s := s) h)
              have HQQ := Lib.hid hqq
              clear hm x02 hmx hqq
              generalize rangeD S T m = E at *
              go_wp2_with fail
              clear t0 x01
              go_loopw [15, 17] (fun nv j we => ∃ (y : Nat), j = .int .i64 y ∧ y ≤ E.length ∧ nv = .int .i64 (cntN s (E.take y) : Nat) ∧ ∃ nn, we = wr.drewN nn) (fun _ j _ => E.length - (intOf j).toNat)
              case atStart => exact ⟨0, rfl, Nat.zero_le _, rfl, 0, rfl⟩
              case round =>
                obtain ⟨y, rfl, hyl, rfl, nn, rfl⟩ := hrel
                by_cases hyE : y < E.length
                · obtain ⟨pb, po, rfl, hlp, v0, _⟩ := HX2.out.at_ hyE
                  have HY := Lib.hid (HCT.out y _ (List.getElem?_eq_getElem hyE))
                  have y0 := HTC.out _ HBW.out
                  have hyi : (y : Int) < (E.length : Int) := by omega
                  have hy0 : (0 : Int) ≤ (y : Int) := by omega
                  have hgl : cntN s (E.take y) ≤ 1000 := by
                    unfold cntN
                    have h1 := List.countP_le_length (p := fun z : TX => decide (z.1 = s)) (l := E.take y)
                    have h2 := List.length_take_le y E
                    rw [List.length_take] at h1
                    omega
                  generalize E[y] = yv at *
                  generalize hG : cntN s (E.take y) = gv at *
                  have HG := Lib.hid hG
                  clear hG
                  have hw : IntKind.i64.wrap ((gv : Int) + 1) = (gv : Int) + 1 := by rw [IntKind.wrap_i64]; omega
                  by_cases e1 : yv.1 = s
                  · have HGT : Hid (cntN s (E.take (y + 1)) = gv + 1) := Lib.hid (by rw [HY.out, if_pos e1])
                    rw [e1] at v0
                    go_wp2_with fail
                    go_quiet (fail)
                    go_wp2_with fail
                    go_roundw
                    case rel => exact ⟨y + 1, by go_num, hyE, by rw [HGT.out]; go_num, _, by first | exact World.drewN_drewN _ _ _ | rfl⟩
                    case measure => simp [intOf]; omega
                  · have HGT : Hid (cntN s (E.take (y + 1)) = gv) := Lib.hid (by rw [HY.out, if_neg e1, Nat.add_zero])
                    have hq : (yv.1.toList == s.toList) = false := by rw [beq_str]; exact decide_eq_false e1
                    go_wp2_with fail
                    go_quiet (fail)
                    go_wp2_with fail
                    go_roundw
                    case rel => exact ⟨y + 1, by go_num, hyE, by rw [HGT.out], _, by first | exact World.drewN_drewN _ _ _ | rfl⟩
                    case measure => simp [intOf]; omega
                · have hyy : y = E.length := by omega
                  subst hyy
                  have hyi : ¬ (E.length : Int) < (E.length : Int) := by omega
                  rw [List.take_length]
                  generalize cntN s E = gv at *
                  go_wp2_with fail
                  go_roundw
                  case rel =>
                    refine ⟨x + 1, _, _, by go_num, hxL, rfl, rfl, ?_, below_drewN HB4.out _⟩
                    have h1 := HLM.out
                    have h2 := HQQ.out
                    omega
                  case measure => simp [intOf]; omega
            · have hxx : x = L.length := by omega
              subst hxx
              have hxi : ¬ (L.length : Int) < (L.length : Int) := by omega
              have hlm := HLM.out
              have hnm : ¬ lv + 1 < mv := by omega
              have hw : IntKind.i64.wrap (lv + 1) = lv + 1 := by rw [IntKind.wrap_i64]; omega
              have HB5 := Lib.hid (HB3.out.trans (HB4.out.mono HB3.out.size))
              clear hlm
              go_wp2_with fail
              go_roundw
              case rel => exact ⟨i + 1, by go_num, hik, by rw [HA2.out], HB5.out⟩
              case measure => simp [intOf]; omega
      · have hii : i = T.length := by omega
        subst hii
        rw [List.take_length] at *
        have hii' : ¬ (T.length : Int) < (T.length : Int) := by omega
        obtain ⟨q, hq400, HQ⟩ : ∃ q : Nat, q ≤ 400 ∧ (allB S T = true → Hid (∀ k, k < S.length → q ≤ ((roundD S T).1 k).length ∧ ((roundD S T).1 k).length ≤ q + 1)) := by
          cases ha : allB S T with
          | true =>
            obtain ⟨q, h1, h2⟩ := HFR.out ha
            exact ⟨q, h1, fun _ => Lib.hid h2⟩
          | false => exact ⟨0, by omega, fun h => by cases h⟩
        have HQ' := Lib.hid HQ
        clear HQ
        generalize allB S T = ab at *
        go_wp2_with fail
        go_loopw [18, 19, 20] (fun le mo k wr => ∃ (x : Nat) (lv mv : Int), k = .int .i64 x ∧ x ≤ S.length ∧ le = .int .i64 lv ∧ mo = .int .i64 mv ∧ (0 ≤ lv ∧ lv ≤ 1000 ∧ 0 ≤ mv ∧ mv ≤ 1000 ∧ (ab = true → (q : Int) ≤ lv ∧ mv ≤ (q : Int) + 1)) ∧ Below w8.heap.size w8 wr) (fun _ _ k _ => S.length - (intOf k).toNat)
        case atStart => exact ⟨0, 1000, 0, rfl, Nat.zero_le _, rfl, rfl, ⟨by omega, by omega, by omega, by omega, fun _ => ⟨by omega, by omega⟩⟩, HB.out⟩
        case round =>
          clear HB
          obtain ⟨x, lv, mv, rfl, hxl, rfl, rfl, hlm, hB⟩ := hrel
          have HB := Lib.hid hB
          have HLM := Lib.hid hlm
          clear hB hlm
          by_cases hxS : x < S.length
          · have hmx : (S.map (·.1))[x]? = some S[x].1 := by simp [hxS]
            obtain ⟨b2, off2, rfl, hlt2, P, cp, _, x01, _⟩ := (HI8.out.below HB.out).at_ (shL_at (D := (roundD S T).1) hmx)
            simp only at x01
            have hxi : (x : Int) < (S.length : Int) := by omega
            have hx0 : (0 : Int) ≤ (x : Int) := by omega
            have hDl := HLO.out x
            have HQX : Hid (ab = true → q ≤ ((roundD S T).1 x).length ∧ ((roundD S T).1 x).length ≤ q + 1) := Lib.hid (fun h => (HQ'.out h).out x hxS)
            clear hmx
            generalize ((roundD S T).1 x).length = gv at *
            go_wp2_with fail
            go_roundw
            case rel =>
              refine ⟨x + 1, _, _, by go_num, hxS, rfl, rfl, ?_, HB.out⟩
              obtain ⟨p1, p2, p3, p4, p5⟩ := HLM.out
              refine ⟨by omega, by omega, by omega, by omega, fun h => ?_⟩
              have h1 := p5 h
              have h2 := HQX.out h
              omega
            case measure => simp [intOf]; omega
          · have hxx : x = S.length := by omega
            subst hxx
            have hxi : ¬ (S.length : Int) < (S.length : Int) := by omega
            obtain ⟨p1, p2, p3, p4, p5⟩ := HLM.out
            have hw : IntKind.i64.wrap (lv + 1) = lv + 1 := by rw [IntKind.wrap_i64]; omega
            have HBW := Lib.hid (HB8.out.trans (HB.out.mono HB8.out.size))
            cases ab with
            | false =>
              clear p5
              go_wp2_with fail
              with_reducible refine (live14_c _).mono ?_
              rintro en wd ⟨rfl, hbd⟩
              go_wp2_with fail
              go_ret
              exact ⟨rfl, HBW.out.trans (hbd.mono HBW.out.size)⟩
            | true =>
              have h1 := p5 rfl
              have hle : mv ≤ lv + 1 := by omega
              clear p5 h1
              go_wp2_with fail
              with_reducible refine (live14_c _).mono ?_
              rintro en wd ⟨rfl, hbd⟩
              go_wp2_with fail
              go_ret
              exact ⟨rfl, HBW.out.trans (hbd.mono HBW.out.size)⟩
end Go.Proofs.Ytacfhjbgplhjbaa
