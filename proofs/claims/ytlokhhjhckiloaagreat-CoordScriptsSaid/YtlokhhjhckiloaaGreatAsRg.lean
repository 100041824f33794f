/- assign: Range, by a contract: the walk. No condition. -/
import Derived.Test.YtlokhhjhckiloaaGreatAsRan
import Derived.IntWalk
namespace Go.Proofs.YtlokhhjhckiloaaGreat
open Go.RowKit
set_option linter.unusedVariables false
theorem take_le {S : List SX} {s : ByteArray} {i m : Nat} (h : (takersG S s S.length)[i]? = some m) : m < S.length := (takersG_mem.1 (List.mem_of_getElem? h)).1
theorem range_bad (S : List SX) (A : Option Addr) (c : Nat) (T : List TX) (A2 : Option Addr) (c2 : Nat) (W : World) (hS : SbIn W A S) (hT : TpIn W A2 T) (hl : S.length ≤ 140737488351232) (hl2 : T.length ≤ 140737488351232) (hz : ∀ x ∈ S, x.2.1.length ≤ 140737488351232) (hk : chkE S T = 1) :
    Calls Tryz.prog 106 #[.slice A S.length c, .slice A2 T.length c2] W (Good W (.tuple #[.slice none 0 0, .int .i64 1])) := by
  have c1 := check_c S A c T A2 c2 W hS hT hl hl2 hz
  rw [hk] at c1
  clear hS hT hz
  go_enter Tryz.func106, Tryz.ntmps106
  go_wp2_with fail
  with_reducible refine c1.mono ?_
  rintro e w1 ⟨rfl, hb1⟩
  go_wp2_with fail
  go_ret2
  exact ⟨rfl, hb1⟩
set_option maxHeartbeats 16000000 in
set_option maxRecDepth 100000 in
theorem range_c (S : List SX) (A : Option Addr) (c : Nat) (T : List TX) (A2 : Option Addr) (c2 : Nat) (W : World) (hS : SbIn W A S) (hT : TpIn W A2 T) (hz : ∀ x ∈ S, x.2.1.length ≤ 140737488351232) (hsz : ∀ t ∈ T, t.1.size ≤ 281474976710656) (hk : chkE S T = 0) :
    Calls Tryz.prog 106 #[.slice A S.length c, .slice A2 T.length c2] W (GotSh W S (rangeD S T)) := by
  obtain ⟨hmS, hmT⟩ := chk_ok hk
  obtain ⟨hl, hok, _⟩ := mayS_iff.1 hmS
  obtain ⟨hl2, hokT, _⟩ := mayT_iff.1 hmT
  have c1 := check_c S A c T A2 c2 W hS hT (by omega) (by omega) hz
  rw [hk] at c1
  have c3 := fun w (h : SbIn w A S) => empty_c S A c w h (by omega)
  have c4 := fun s w (h : SbIn w A S) => takers_c S A c s w h (by omega) hz
  have HS := Lib.hid hS
  have HT := Lib.hid hT
  clear hS hT hmS hmT hk hok
  unfold GotSh
  go_enter Tryz.func106, Tryz.ntmps106
  go_wp2_with fail
  with_reducible refine c1.mono ?_
  rintro e w1 ⟨rfl, hb1⟩
  have HB1 := Lib.hid hb1
  clear hb1 c1
  go_wp2_with fail
  with_reducible refine (c3 _ (HS.out.below HB1.out)).mono ?_
  rintro e w2 ⟨B, e0, rfl, hrow2, hb2⟩
  have HR0 : Hid (RgS W S (.slice B S.length e0) (rangeD S (T.take 0)) (emptyR S) w2) := Lib.hid ⟨⟨by rw [emptyR_len]; exact own_base hrow2 HB1.out.size, fun k r hr => by
    have hr' : r.2 = .slice none 0 0 := by
      unfold emptyR at hr
      rw [List.getElem?_map] at hr
      cases h : S[k]? with
      | none => rw [h] at hr; cases hr
      | some x => rw [h] at hr; injection hr with hr; rw [← hr]
    rw [hr']
    exact World.ownsRow_nil _ _ _ _, fun j k r r' hr hr' b hb hb' => by
    have hr2 : r.2 = .slice none 0 0 := by
      unfold emptyR at hr
      rw [List.getElem?_map] at hr
      cases h : S[j]? with
      | none => rw [h] at hr; cases hr
      | some x => rw [h] at hr; injection hr with hr; rw [← hr]
    rw [hr2] at hb
    cases hb⟩, by unfold emptyR; rw [List.map_map]; rfl, HB1.out.trans (hb2.mono HB1.out.size)⟩
  clear hrow2 hb2 HB1 c3
  go_wp2_with fail
  go_loopw [10, 11, 12, 13, 14, 25] (fun _ _ _ _ _ i wr => ∃ (k : Nat) (R : List (Int × Value)), i = .int .i64 k ∧ k ≤ T.length ∧ RgS W S (.slice B S.length e0) (rangeD S (T.take k)) R wr) (fun _ _ _ _ _ i _ => T.length - (intOf i).toNat)
  case atStart => exact ⟨0, _, rfl, Nat.zero_le _, HR0.out⟩
  case round =>
    obtain ⟨k, R, rfl, hkl, hP⟩ := hrel
    have HP := Lib.hid hP
    clear hP HR0
    by_cases hk : k < T.length
    · have hx : T[k]? = some T[k] := List.getElem?_eq_getElem hk
      obtain ⟨b, off, rfl, hlt, y0, y1⟩ := (HT.out.below HP.out.bel).at_ hk
      have hki : (k : Int) < (T.length : Int) := by omega
      have hzk := hsz _ (List.getElem_mem hk)
      have hok := okT_iff.1 (hokT _ (List.getElem_mem hk))
      have HSU := Lib.hid (rangeD_succ (S := S) hx)
      have HLN := Lib.hid (rangeD_len (S := S) (fun t ht => (okT_iff.1 (hokT t ht)).2) k (by omega))
      clear hx
      generalize T[k] = t at *
      obtain ⟨s, n'⟩ := t
      obtain ⟨n, rfl⟩ : ∃ n : Nat, n' = n := ⟨n'.toNat, by simp only at hok; omega⟩
      have hn1 : 1 ≤ n := by simp only at hok; omega
      have hn2 : n ≤ 16 := by simp only at hok; omega
      simp only at y0 y1 hzk
      have hBt : Below wr.heap.size wr (wr.alloc (.cells #[.string s, .int .i64 (n : Int)] 162)) := (Below.refl _ _).alloc (Nat.le_refl _) _
      have HV := Lib.hid (HP.out.later hBt)
      have HX := Lib.hid (Box.new wr 162 #[.string s, .int .i64 (n : Int)])
      have c5 := c4 s (wr.alloc (.cells #[.string s, .int .i64 (n : Int)] 162)) ((HS.out.below HP.out.bel).below hBt)
      have c6 := fun w => parts_c s n w hzk hn2
      have hc := fun w (h : Box w wr.heap.size 162 #[.string s, .int .i64 (n : Int)]) => And.intro ((h.cell 0).trans (show _ = some (Value.string s) from rfl)) ((h.cell 1).trans (show _ = some (Value.int .i64 (n : Int)) from rfl))
      unfold tpV tpC at c6
      clear hBt hok hokT c4
      go_wp2_with fail
      with_reducible refine c5.mono ?_
      rintro e w3 ⟨A3, c3, rfl, htk, hb3⟩
      have HV3 := Lib.hid (HV.out.later hb3)
      have HX3 := Lib.hid (HX.out.later hb3)
      have HTK := Lib.hid (own_base htk HV.out.bel.size)
      clear hb3 htk c5 HV HX
      obtain ⟨z0, z1⟩ := hc _ HX3.out
      go_wp2_with fail
      with_reducible refine (c6 _).mono ?_
      rintro e w4 ⟨A4, c4, rfl, hpr, hb4⟩
      rw [prtsG_len] at hpr
      obtain ⟨p, rfl, hplt, hpge, hpc, _⟩ := own_in hpr (by omega)
      have HI0 : Hid (RgI W S (.slice B S.length e0) wr.heap.size (s, (n : Int)) A3 c3 (takersG S s S.length) p c4 n (rangeD S (T.take k)) R w4) := Lib.hid ⟨HV3.out.later hb4, HX3.out.later hb4, own_below HTK.out hb4, own_base hpr HV3.out.bel.size, fun i r hr hb => by
        have := (own_blk (HV3.out.sh.parts i r hr) hb).2
        omega⟩
      have hTL := takersG_len S s S.length
      have HML := Lib.hid (fun i m => take_le (S := S) (s := s) (i := i) (m := m))
      have HDS : Hid (stepR S (rangeD S (T.take k)) (s, (n : Int)) = dealK (takersG S s S.length) s n (rangeD S (T.take k)) (takersG S s S.length).length) := Lib.hid (by unfold stepR; rfl)
      clear hpr hb4 hplt hpge z0 z1 c6 y0 y1 HV3 HX3 HTK HP
      rw [prtsG_len]
      generalize takersG S s S.length = L at *
      generalize rangeD S (T.take k) = D0 at *
      generalize wr.heap.size = bt at *
      go_wp2_with fail
      go_loopw [11, 12, 13, 14, 37] (fun a _ _ _ j wr => ∃ (x : Nat) (R' : List (Int × Value)) (o : Nat), j = .int .i64 x ∧ x ≤ L.length ∧ a = .slice (some ⟨p, o, none⟩) (n - offN n L.length x) (c4 - offN n L.length x) ∧ (0 < c4 - offN n L.length x → o = offN n L.length x * 2) ∧ RgI W S (.slice B S.length e0) bt (s, (n : Int)) A3 c3 L p c4 n (dealK L s n D0 x) R' wr) (fun _ _ _ _ j _ => L.length - (intOf j).toNat)
      case atStart => exact ⟨0, R, 0, rfl, Nat.zero_le _, by rw [offN_zero]; rfl, fun _ => by rw [offN_zero], HI0.out⟩
      case round =>
        obtain ⟨x, R', o, rfl, hxl, rfl, ho, hI⟩ := hrel
        have HI := Lib.hid hI
        clear HI0
        by_cases hxk : x < L.length
        · obtain ⟨m, hge⟩ : ∃ m, L[x]? = some m := ⟨_, List.getElem?_eq_getElem hxk⟩
          obtain ⟨gt, rfl, hgt, v0⟩ := ints_at HI.out.tak hge
          have hmS := HML.out x _ hge
          have HDK := Lib.hid (dealK_succ (s := s) (n := n) (D := D0) hge)
          have hRl : R'.length = S.length := by have := congrArg List.length HI.out.st.mem; simpa using this
          obtain ⟨r, hge2⟩ : ∃ r, R'[m]? = some r := ⟨_, List.getElem?_eq_getElem (by omega)⟩
          obtain ⟨hnR, g, rfl, hgl, hbg, _⟩ := HI.out.st.sh.at_ hge2
          have HG2 := Lib.hid hge2
          have hDl : (dealK L s n D0 x m).length ≤ 1000 := by
            have h1 := dealK_len (L := L) (s := s) (n := n) (D := D0) x (by omega) m
            have h2 := HLN.out m
            have h3 := offN_le (n := n) hxk
            omega
          have hcl := chunkN_len (s := s) (n := n) hxk
          have hof := offN_le (n := n) hxk
          have hos := offN_succ n L.length x
          obtain ⟨u0, u1, u2⟩ := HI.out.tbox
          simp only at u0 u1
          have hN : TpIn wr (some ⟨p, o, none⟩) (chunkN s n L.length x) := by
            by_cases h0 : 0 < c4 - offN n L.length x
            · rw [ho h0]
              exact HI.out.left _ _
            · have : chunkN s n L.length x = [] := List.length_eq_zero_iff.1 (by rw [hcl]; omega)
              rw [this]
              exact TpIn.nil _ _
          have c7 := fun w (hb : Below wr.heap.size wr w) cX => give_c W.heap.size g S.length e0 m R' (dealK L s n D0 x) r (chunkN s n L.length x) p o cX w (HI.out.later hb).st.sh hge2 (hN.below hb) (by omega) (by have := (HI.out.later hb).st.bel.size; omega)
          rw [hcl] at c7
          have HGV := Lib.hid (fun w (hb : Below wr.heap.size wr w) e w' => RgI.gave (w' := w') (N := chunkN s n L.length x) (e := e) (HI.out.later hb) hge2)
          obtain ⟨q, hq⟩ : ∃ q : Nat, n / L.length = q := ⟨_, rfl⟩
          obtain ⟨rr, hrr⟩ : ∃ rr : Nat, n % L.length = rr := ⟨_, rfl⟩
          have hdiv : Int.tdiv (n : Int) (L.length : Int) = (q : Int) := by rw [Int.tdiv_eq_ediv_of_nonneg (by omega), ← hq]; rfl
          have hmod : Int.tmod (n : Int) (L.length : Int) = (rr : Int) := by rw [Int.tmod_eq_emod_of_nonneg (by omega), ← hrr]; rfl
          have hdl : q ≤ 16 := by rw [← hq]; exact Nat.le_trans (Nat.div_le_self _ _) hn2
          have hml : rr ≤ 16 := by rw [← hrr]; exact Nat.le_trans (Nat.mod_le _ _) hn2
          have hrw : rowN n L.length x = if x < rr then q + 1 else q := by unfold rowN; rw [hq, hrr]; split <;> rfl
          have hLz : (L.length : Int) ≠ 0 := by omega
          have hxi : (x : Int) < (L.length : Int) := by omega
          have hx0 : (0 : Int) ≤ (x : Int) := by omega
          have hmi : (m : Int) < (S.length : Int) := by omega
          have hm0 : (0 : Int) ≤ (m : Int) := by omega
          have hw1 : IntKind.i64.wrap (q : Int) = (q : Int) := by rw [IntKind.wrap_i64]; omega
          have hw2 : IntKind.i64.wrap ((q : Int) + 1) = (q : Int) + 1 := by rw [IntKind.wrap_i64]; omega
          have hw3 : IntKind.i64.wrap (rr : Int) = (rr : Int) := by rw [IntKind.wrap_i64]; omega
          clear hge hge2 hN hDl hcl hq hrr hnR hRl hgl hbg
          have hlc : n - offN n L.length x ≤ c4 - offN n L.length x := by omega
          have HOO := Lib.hid (And.intro ho (And.intro hos (And.intro hof (And.intro hpc hxl))))
          have hxl1 : x + 1 ≤ L.length := hxk
          have hE1 : n - offN n L.length (x + 1) = n - offN n L.length x - rowN n L.length x := by omega
          have hE2 : c4 - offN n L.length (x + 1) = c4 - offN n L.length x - rowN n L.length x := by omega
          have hE3 : ∀ o', (0 < c4 - offN n L.length x → o = offN n L.length x * 2) → (o' = o + rowN n L.length x * 2 ∨ c4 - offN n L.length x = rowN n L.length x) → (0 < c4 - offN n L.length x - rowN n L.length x → o' = offN n L.length (x + 1) * 2) := by
            intro o' h1 h2 h3
            have := h1 (by omega)
            omega
          have HE := Lib.hid (And.intro hE1 (And.intro hE2 hE3))
          have hlr : rowN n L.length x ≤ n - offN n L.length x := by omega
          clear hos hof ho hpc hE1 hE2 hE3 hxl
          by_cases hr : x < rr
          · skip
            have hri : (x : Int) < (rr : Int) := by omega
            rw [if_pos hr] at hrw
            rw [hrw] at c7 hlr HE
            clear hrw
            generalize n - offN n L.length x = l' at *
            generalize c4 - offN n L.length x = c' at *
            have hs1 : ((q : Int) + 1) ≤ (c' : Int) := by omega
            have hs2 : ((q : Int) + 1) ≤ (l' : Int) := by omega
            have hs0 : (0 : Int) ≤ ((q : Int) + 1) := by omega
            go_wp2_with fail
            have hsz0 := HI.out.st.bel.size
            clear hdiv hmod hw1 hw2 hw3 u0 u1 u2 v0 hc
            go_region_held3 (fun w => W.heap.size ≤ w.heap.size) (first | exact hsz0 | exact HI2.out.st.bel.size) (first | ((with_reducible refine (c7 _ ((Below.refl _ _).drew) c').mono ?_); rintro e w5 hgv; obtain ⟨rfl, R2, hI2⟩ := HGV.out _ ((Below.refl _ _).drew) _ _ hgv; have HI2 := Lib.hid hI2; clear hI2 hgv))
            all_goals
              clear c7
              by_cases hcc : c' = (q + 1)
              · subst hcc
                go_wp2_with fail
                go_roundw
                case rel => exact ⟨x + 1, R2, o, by go_num, hxl1, by rw [HE.out.1, HE.out.2.1] <;> (congr 1 <;> omega), by rw [HE.out.2.1]; exact HE.out.2.2 o HOO.out.1 (.inr rfl), by rw [HDK.out]; exact HI2.out⟩
                case measure => simp [intOf]; omega
              · go_wp2_with fail
                go_roundw
                case rel => exact ⟨x + 1, R2, o + (q + 1) * 2, by go_num, hxl1, by rw [HE.out.1, HE.out.2.1] <;> (congr 1 <;> omega), by rw [HE.out.2.1]; exact HE.out.2.2 _ HOO.out.1 (.inl rfl), by rw [HDK.out]; exact HI2.out⟩
                case measure => simp [intOf]; omega
          · skip
            have hri : ¬ (x : Int) < (rr : Int) := by omega
            rw [if_neg hr] at hrw
            rw [hrw] at c7 hlr HE
            clear hrw
            generalize n - offN n L.length x = l' at *
            generalize c4 - offN n L.length x = c' at *
            have hs1 : (q : Int) ≤ (c' : Int) := by omega
            have hs2 : (q : Int) ≤ (l' : Int) := by omega
            have hs0 : (0 : Int) ≤ (q : Int) := by omega
            go_wp2_with fail
            have hsz0 := HI.out.st.bel.size
            clear hdiv hmod hw1 hw2 hw3 u0 u1 u2 v0 hc
            go_region_held3 (fun w => W.heap.size ≤ w.heap.size) (first | exact hsz0 | exact HI2.out.st.bel.size) (first | ((with_reducible refine (c7 _ ((Below.refl _ _).drew) c').mono ?_); rintro e w5 hgv; obtain ⟨rfl, R2, hI2⟩ := HGV.out _ ((Below.refl _ _).drew) _ _ hgv; have HI2 := Lib.hid hI2; clear hI2 hgv))
            all_goals
              clear c7
              by_cases hcc : c' = q
              · subst hcc
                go_wp2_with fail
                go_roundw
                case rel => exact ⟨x + 1, R2, o, by go_num, hxl1, by rw [HE.out.1, HE.out.2.1] <;> (congr 1 <;> omega), by rw [HE.out.2.1]; exact HE.out.2.2 o HOO.out.1 (.inr rfl), by rw [HDK.out]; exact HI2.out⟩
                case measure => simp [intOf]; omega
              · go_wp2_with fail
                go_roundw
                case rel => exact ⟨x + 1, R2, o + q * 2, by go_num, hxl1, by rw [HE.out.1, HE.out.2.1] <;> (congr 1 <;> omega), by rw [HE.out.2.1]; exact HE.out.2.2 _ HOO.out.1 (.inl rfl), by rw [HDK.out]; exact HI2.out⟩
                case measure => simp [intOf]; omega
        · have hxx : x = L.length := by omega
          subst hxx
          rw [← HDS.out, ← HSU.out] at hI
          have HQ := Lib.hid hI.st
          clear hI HI
          go_wp2_with fail
          go_roundw
          case rel => exact ⟨k + 1, R', by go_num, hk, HQ.out⟩
          case measure => simp [intOf]; omega
    · have hkk : k = T.length := by omega
      subst hkk
      have HQ : Hid (RgS W S (.slice B S.length e0) (rangeD S T) R wr) := Lib.hid (by have := HP.out; rwa [List.take_length] at this)
      clear HP
      go_wp2_with fail
      go_ret2
      exact ⟨B, e0, R, rfl, HQ.out.sh, HQ.out.mem, HQ.out.bel⟩
end Go.Proofs.YtlokhhjhckiloaaGreat
