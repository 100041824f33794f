/- assign: AssignIdle, walked: the walk. No condition. -/
import Derived.Test.YtacfhjbgplhjbaaAsIdl
namespace Go.Proofs.Ytacfhjbgplhjbaa
open Go.RowKit
set_option linter.unusedVariables false
/-- The last one's share, of more: nothing. -/
theorem far_cell {base n : Nat} {w : World} {A : Option Addr} {c : Nat} {R : List (Int × Value)} {D : Nat → List TX} (h : ShIs base w (.slice A n c) R D) (hn : R.length = n) {k : Nat} (hk : k < n) (hD : D k = []) : ∃ g P e, A = some ⟨g, 0, none⟩ ∧ g < w.heap.size ∧ n ≤ c ∧ w.cell? ⟨g, k * 2 + 1, none⟩ = some (.slice P 0 e) := by
  obtain ⟨r, hr⟩ : ∃ r, R[k]? = some r := ⟨_, List.getElem?_eq_getElem (by omega)⟩
  obtain ⟨_, g, rfl, hgl, _, _, h1, _⟩ := h.at_ hr
  have hp := h.parts k r hr
  obtain ⟨P, e, ep⟩ := own_slice hp
  rw [hD] at ep
  rw [ep] at h1
  have hrow := h.row
  rw [hn] at hrow
  obtain ⟨_, _, _, _, hc, _⟩ := own_in hrow (by omega)
  exact ⟨g, P, e, rfl, hgl, hc, h1⟩
set_option maxHeartbeats 32000000 in
set_option maxRecDepth 100000 in
theorem assignIdle_walk (S : List SX) (A : Option Addr) (c : Nat) (T : List TX) (A2 : Option Addr) (c2 : Nat) (W : World) (hS : SbIn W A S) (hl : S.length ≤ 140737488351232) (hz : ∀ x ∈ S, x.2.1.length ≤ 140737488351232) (hT : TpIn W A2 T) (hl2 : T.length ≤ 140737488351232) (hsz : ∀ t ∈ T, t.1.size ≤ 281474976710656) :
    Calls Try.prog 6 #[.slice A S.length c, .slice A2 T.length c2] W (Good W (.bool true)) := by
  have c1 := few_c S A c T A2 c2 W hS hl hl2 hz
  have HS := Lib.hid hS
  have HT := Lib.hid hT
  cases hf : fewB S T with
  | false =>
    rw [hf] at c1
    clear hS hT hz hsz hf
    go_enter Try.func6, Try.ntmps6
    go_wp2_with fail
    with_reducible refine c1.mono ?_
    rintro e w1 ⟨rfl, hb1⟩
    go_wp2_with ((with_reducible refine (live14_c _).mono ?_); rintro e w2 ⟨rfl, hb2⟩)
    go_ret
    exact ⟨rfl, hb1.trans (hb2.mono hb1.size)⟩
  | true =>
    rw [hf] at c1
    by_cases h19 : 19 < S.length
    · have h19' : (19 : Int) < (S.length : Int) := by omega
      clear hS hT hz hsz hf
      go_enter Try.func6, Try.ntmps6
      go_wp2_with fail
      with_reducible refine c1.mono ?_
      rintro e w1 ⟨rfl, hb1⟩
      go_wp2_with ((with_reducible refine (live14_c _).mono ?_); rintro e w2 ⟨rfl, hb2⟩)
      go_ret
      exact ⟨rfl, hb1.trans (hb2.mono hb1.size)⟩
    have h19' : ¬ (19 : Int) < (S.length : Int) := by omega
    have c7 := fun w (hb : Below W.heap.size W w) => check_c S A c T A2 c2 w (HS.out.below hb) (HT.out.below hb) hl hl2 hz
    rcases chk_cases S T with hk | hk
    rotate_left
    · rw [hk] at c7
      clear hS hT hz hsz hf hk
      go_enter Try.func6, Try.ntmps6
      go_wp2_with fail
      with_reducible refine c1.mono ?_
      rintro e w1 ⟨rfl, hb1⟩
      go_wp2_with fail
      with_reducible refine (c7 _ hb1).mono ?_
      rintro e w2 ⟨rfl, hb2⟩
      go_wp2_with ((with_reducible refine (live14_c _).mono ?_); rintro e w3 ⟨rfl, hb3⟩)
      go_ret
      exact ⟨rfl, (hb1.trans (hb2.mono hb1.size)).trans (hb3.mono (Nat.le_trans hb1.size hb2.size))⟩
    rw [hk] at c7
    have c2' := fun w (hb : Below W.heap.size W w) => range_c S A c T A2 c2 w (HS.out.below hb) (HT.out.below hb) hz hsz hk
    have c4 := fun w (hb : Below W.heap.size W w) => round_c S A c T A2 c2 w (HS.out.below hb) (HT.out.below hb) hz hsz hk
    have hmx := chk_ok hk
    have hT16 := fun t ht => (okT_iff.1 ((mayT_iff.1 hmx.2).2.1 t ht)).2
    have hSl := (mayS_iff.1 hmx.1).1
    have hSo := (mayS_iff.1 hmx.1).2.1
    have hTl := (mayT_iff.1 hmx.2).1
    have hr1 : ∀ x ∈ shL (S.map (·.1)) (rangeD S T), x.2.length ≤ 100000 := fun x hx => by
      obtain ⟨k, _, e⟩ := shL_mem hx
      rw [e]
      have := rangeD_len (S := S) hT16 T.length (Nat.le_refl _) k
      rw [List.take_length] at this
      omega
    have hr2 : ∀ x ∈ shL (S.map (·.1)) (roundD S T).1, x.2.length ≤ 100000 := fun x hx => by
      obtain ⟨k, _, e⟩ := shL_mem hx
      rw [e]
      have := roundD_len (S := S) hT16 T.length (Nat.le_refl _) k
      rw [List.take_length] at this
      omega
    have hln : ∀ D, (shL (S.map (·.1)) D).length = S.length := fun D => by rw [shL_len, List.length_map]
    have c6 := fun B1 d1 B2 d2 w (h1 : ShIn w B1 (shL (S.map (·.1)) (rangeD S T))) (h2 : ShIn w B2 (shL (S.map (·.1)) (rangeD S T))) => same_c _ B1 d1 B2 d2 w h1 h2 (by rw [hln]; omega) hr1
    have c9 := fun B1 d1 B2 d2 w (h1 : ShIn w B1 (shL (S.map (·.1)) (roundD S T).1)) (h2 : ShIn w B2 (shL (S.map (·.1)) (roundD S T).1)) => same_c _ B1 d1 B2 d2 w h1 h2 (by rw [hln]; omega) hr2
    simp only [hln] at c6 c9
    have hzm : ∀ x ∈ moreS S (lastM S), x.2.1.length ≤ 140737488351232 := fun x hx => by
      unfold moreS at hx
      rcases List.mem_append.1 hx with hx | hx
      · exact hz x hx
      · have : x = (lastM S, [], none, 0) := by simpa using hx
        subst this
        simp
    have HMO : Hid (¬ (1073741824 : Int) < lastM S → chkE (moreS S (lastM S)) T = 0) := Lib.hid (fun h => more_ok hk (by omega) h)
    have cR := fun (hm : chkE (moreS S (lastM S)) T = 0) B e w (hb : Below W.heap.size W w) (h : SbIn w B (moreS S (lastM S))) => range_c (moreS S (lastM S)) B e T A2 c2 w h (HT.out.below hb) hzm hsz hm
    have cO := fun (hm : chkE (moreS S (lastM S)) T = 0) B e w (hb : Below W.heap.size W w) (h : SbIn w B (moreS S (lastM S))) => round_c (moreS S (lastM S)) B e T A2 c2 w h (HT.out.below hb) hzm hsz hm
    simp only [rangeD_more, roundD_more] at cR cO
    have HLN : Hid (lastM [] = 0) := Lib.hid lastM_nil
    have HLA := Lib.hid (fun k x => lastM_at (S := S) (k := k) (x := x))
    have hlb : ∀ (k : Nat) (x : SX), S[k]? = some x → 0 ≤ x.1 ∧ x.1 ≤ 1073741824 := fun k x h => by
      have hy := hSo x (List.mem_of_getElem? h)
      unfold okS at hy
      simp only [Bool.and_eq_true, decide_eq_true_eq] at hy
      exact ⟨hy.1.1.1, hy.1.1.2⟩
    obtain ⟨i0, hi, hz0, hz1, hz2⟩ := info_parts infoSub
    clear hS hT hf hk hmx hT16 hTl hr1 hr2 hln hzm hz hsz hSo
    go_enter Try.func6, Try.ntmps6
    go_wp2_with fail
    with_reducible refine c1.mono ?_
    rintro e w1 ⟨rfl, hb1⟩
    go_wp2_with fail
    with_reducible refine (c7 _ hb1).mono ?_
    rintro e w2 ⟨rfl, hb2⟩
    have HB2 := Lib.hid (hb1.trans (hb2.mono hb1.size))
    clear hb1 hb2 c1 c7
    go_upto_if 33 with fail
    go_cut [5] from 33 to 41 (fun v wx => v = .int .i64 (lastM S) ∧ w2 = wx)
    case first =>
      by_cases h0 : 0 < S.length
      · have h0' : (0 : Int) < (S.length : Int) := by omega
        obtain ⟨k, hkl, hkk⟩ : ∃ k, k < S.length ∧ k + 1 = S.length := ⟨S.length - 1, by omega, by omega⟩
        have hx : S[k]? = some S[k] := List.getElem?_eq_getElem hkl
        obtain ⟨b, off, rfl, hlt, y0, y1, _⟩ := (HS.out.below HB2.out).at_ hkl
        have hbd := hlb k _ hx
        have HX := Lib.hid (HLA.out k _ hx hkk)
        have hw : IntKind.i64.wrap ((S.length : Int) - 1) = (k : Int) := by rw [IntKind.wrap_i64]; omega
        have hk0 : (0 : Int) ≤ (k : Int) := by omega
        have hk1 : (k : Int) < (S.length : Int) := by omega
        clear hx hlb hkk
        generalize S[k] = x at *
        have hw2 : IntKind.i64.wrap (x.1 + 1) = x.1 + 1 := by rw [IntKind.wrap_i64]; omega
        go_wp2_with fail
        go_meet
        exact ⟨by rw [HX.out], rfl⟩
      · have hS0 : S = [] := List.length_eq_zero_iff.1 (by omega)
        have h0' : ¬ (0 : Int) < (S.length : Int) := by omega
        have HX : Hid (lastM S = 0) := Lib.hid (by rw [hS0]; exact HLN.out)
        clear hS0
        go_wp2_with fail
        go_meet
        exact ⟨by rw [HX.out], rfl⟩
    case rest =>
      obtain ⟨rfl, rfl⟩ := hcut
      by_cases hbig : (1073741824 : Int) < lastM S
      · go_wp2_with ((with_reducible refine (live14_c _).mono ?_); rintro e w3 ⟨rfl, hb3⟩)
        go_ret
        exact ⟨rfl, HB2.out.trans (hb3.mono HB2.out.size)⟩
      have cR' := cR (HMO.out (by omega))
      have cO' := cO (HMO.out (by omega))
      obtain ⟨B, e, w3, hrun, hrow3, hb3⟩ := app_subs S A c w2 (HS.out.below HB2.out) (by omega)
      have HB3 := Lib.hid (HB2.out.trans (hb3.mono HB2.out.size))
      have HB4 : Hid (Below W.heap.size W (w3.alloc (.cells #[.int .i64 (lastM S), .slice none 0 0] 44))) := Lib.hid (HB3.out.alloc HB3.out.size _)
      have hrow4 := own_below hrow3 ((Below.refl w3.heap.size w3).alloc (Nat.le_refl _) (.cells #[.int .i64 (lastM S), .slice none 0 0] 44))
      have hnews := news_at (Box.new w3 44 #[.int .i64 (lastM S), .slice none 0 0])
      have hsz4 : w2.heap.size ≤ (w3.alloc (.cells #[.int .i64 (lastM S), .slice none 0 0] 44)).heap.size := by have := hb3.size; simp; omega
      have hSl' := hSl
      clear hrow3 hb3 cR cO HMO
      generalize lastM S = l at *
      go_wp2_with (at_builtin; first
        | (refine Lib.wpList_append_run _ rfl _ _ _ _ rfl _ _ rfl rfl _ _ hrun ?_)
        | (refine wpList_append_own_at _ rfl _ _ 22 rfl w2.heap.size 44 i0 (.agg #[.int .i64 0, .slice none 0 0]) 2 32 Try.underlying22 hi hz0 hz1 hz2 rfl (by decide) (.slice B S.length e) S.length (sbsC S) rfl hrow4 ⟨w3.heap.size, 0, none⟩ 1 1 [.int .i64 l, .slice none 0 0] rfl rfl hnews (by simp [Value.oneCell']) (by unfold maxLen; omega) (by omega) hsz4 ?_))
      intro v' w5 hown' hgrow _ _
      obtain ⟨B2, e2, rfl⟩ := own_slice hown'
      have HB5 : Hid (Below W.heap.size W w5) := Lib.hid (HB4.out.grown hgrow HB4.out.size (fun j e => Nat.le_trans HB2.out.size (hrow4.lt j e).1))
      have HMI : Hid (SbIn w5 B2 (moreS S l)) := Lib.hid (sbs_in (base := w2.heap.size) (c := e2) (by rw [moreS_len]; unfold moreS; rw [sbsC_app]; exact hown') (fun x hx => by
        unfold moreS at hx
        rcases List.mem_append.1 hx with hx | hx
        · exact (HS.out.below HB5.out).strs x hx
        · have : x = (l, [], none, 0) := by simpa using hx
          subst this
          exact StrIn.nil _ _))
      simp only [moreS_len] at cR' cO'
      clear hown' hgrow hrow4 hnews hsz4 HB4 HB3 HB2 hrun
      have hw1 : IntKind.i64.wrap ((S.length : Int) + 1) = (S.length : Int) + 1 := by rw [IntKind.wrap_i64]; omega
      go_wp2_with fail
      with_reducible refine (c2' _ HB5.out).mono ?_
      rintro en w6 ⟨A6, d6, R6, rfl, hs6, hm6, hb6⟩
      have HB6 := Lib.hid (HB5.out.trans (hb6.mono HB5.out.size))
      have HI6 := Lib.hid (GotSh.inn hs6 hm6)
      have HMI6 := Lib.hid (HMI.out.below hb6)
      clear hs6 hm6 hb6 c2' HMI HB5
      go_wp2_with fail
      with_reducible refine (cR' _ _ _ HB6.out HMI6.out).mono ?_
      rintro en w7 ⟨A7, d7, R7, rfl, hs7, hm7, hb7⟩
      have HB7 := Lib.hid (HB6.out.trans (hb7.mono HB6.out.size))
      have HI67 := Lib.hid (HI6.out.below hb7)
      have HMI7 := Lib.hid (HMI6.out.below hb7)
      have HI7 : Hid (ShIn w7 A7 (shL (S.map (·.1)) (rangeD S T))) := Lib.hid (by have := (GotSh.inn hs7 hm7).take S.length; rwa [shL_more] at this)
      rw [moreS_len] at hs7 ⊢
      obtain ⟨g7, P7, e7, rfl, hgl7, hc7, hcell7⟩ := far_cell hs7 (by have := congrArg List.length hm7; simpa [moreS] using this) (Nat.lt_succ_self S.length) (rangeD_far S T S.length (Nat.le_refl _))
      clear hs7 hm7 hb7 cR' HMI6 HB6 HI6
      go_wp2_with fail
      with_reducible refine (c4 _ HB7.out).mono ?_
      rintro en w8 ⟨A8, d8, R8, rfl, hs8, hm8, hb8⟩
      have HB8 := Lib.hid (HB7.out.trans (hb8.mono HB7.out.size))
      have HI8 := Lib.hid (GotSh.inn hs8 hm8)
      have HI68 := Lib.hid (HI67.out.below hb8)
      have HI78 := Lib.hid (HI7.out.below hb8)
      have HMI8 := Lib.hid (HMI7.out.below hb8)
      have hcell8 := (hb8.cell (p := ⟨g7, S.length * 2 + 1, none⟩) hgl7).trans hcell7
      have hgl8 := Nat.lt_of_lt_of_le hgl7 hb8.size
      clear hs8 hm8 hb8 c4 HMI7 HB7 HI67 HI7 hcell7 hgl7
      go_wp2_with fail
      with_reducible refine (cO' _ _ _ HB8.out HMI8.out).mono ?_
      rintro en w9 ⟨A9, d9, R9, rfl, hs9, hm9, hb9⟩
      have HB9 := Lib.hid (HB8.out.trans (hb9.mono HB8.out.size))
      have HI89 := Lib.hid (HI8.out.below hb9)
      have HI69 := Lib.hid (HI68.out.below hb9)
      have HI79 := Lib.hid (HI78.out.below hb9)
      have hcell9 := (hb9.cell (p := ⟨g7, S.length * 2 + 1, none⟩) hgl8).trans hcell8
      have hgl9 := Nat.lt_of_lt_of_le hgl8 hb9.size
      have HI9 : Hid (ShIn w9 A9 (shL (S.map (·.1)) (roundD S T).1)) := Lib.hid (by have := (GotSh.inn hs9 hm9).take S.length; rwa [shL_more] at this)
      rw [moreS_len] at hs9 ⊢
      obtain ⟨g9, P9, e9, rfl, hglq, hc9, hcellq⟩ := far_cell hs9 (by have := congrArg List.length hm9; simpa [moreS] using this) (Nat.lt_succ_self S.length) (roundD_far S T S.length (Nat.le_refl _))
      have hq7 : (S.length : Int) ≤ (d7 : Int) := by omega
      have hq9 : (S.length : Int) ≤ (d9 : Int) := by omega
      have hq0 : (0 : Int) ≤ (S.length : Int) := by omega
      have hq1 : (S.length : Int) < (S.length : Int) + 1 := by omega
      clear hs9 hm9 hb9 cO' HMI8 HB8 HI8 HI68 HI78 hcell8 hgl8
      go_wp2_with fail
      with_reducible refine (c6 _ _ _ _ _ HI69.out HI79.out).mono ?_
      rintro en wa ⟨rfl, na, rfl⟩
      go_wp2_with fail
      with_reducible refine (c9 _ _ _ _ _ (HI89.out.below (below_drewN (Below.refl _ _) _)) (HI9.out.below (below_drewN (Below.refl _ _) _))).mono ?_
      rintro en wb ⟨rfl, nb, rfl⟩
      have hBb : Below w9.heap.size w9 ((w9.drewN na).drewN nb) := below_drewN (below_drewN (Below.refl _ _) _) _
      have hcell7 := (hBb.cell (p := ⟨g7, S.length * 2 + 1, none⟩) hgl9).trans hcell9
      have hcell8 := (hBb.cell (p := ⟨g9, S.length * 2 + 1, none⟩) hglq).trans hcellq
      have HBb := Lib.hid (HB9.out.trans (hBb.mono HB9.out.size))
      clear hBb hcell9 hcellq c6 c9 HI69 HI79 HI89 HI9 hgl9 hglq
      generalize (w9.drewN na).drewN nb = wc at *
      go_wp2_with fail
      with_reducible refine (live14_c _).mono ?_
      rintro en wd ⟨rfl, hbd⟩
      go_wp2_with fail
      go_ret
      exact ⟨rfl, HBb.out.trans (hbd.mono HBb.out.size)⟩
end Go.Proofs.Ytacfhjbgplhjbaa
