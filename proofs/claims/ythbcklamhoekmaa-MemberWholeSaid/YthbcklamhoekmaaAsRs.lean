/- assign: the document's Range, by a contract: the walk. No condition. -/
import Derived.Test.YthbcklamhoekmaaAsRr
namespace Go.Proofs.Ythbcklamhoekmaa
open Go.RowKit
set_option linter.unusedVariables false
set_option maxHeartbeats 32000000 in
set_option maxRecDepth 100000 in
theorem rrange_c (S : List SX) (A : Option Addr) (c : Nat) (T : List TX) (A2 : Option Addr) (c2 : Nat) (W : World) (hS : SbIn W A S) (hT : TpIn W A2 T) (hz : ∀ x ∈ S, x.2.1.length ≤ 140737488351232) (hk : chkE S T = 0) :
    Calls Try.prog 61 #[.slice A S.length c, .slice A2 T.length c2] W (GotSh W S (rangeD S T)) := by
  obtain ⟨hmS, hmT⟩ := chk_ok hk
  obtain ⟨hl, hok, _⟩ := mayS_iff.1 hmS
  obtain ⟨hl2, hokT, _⟩ := mayT_iff.1 hmT
  have c1 := rcheck_c S A c T A2 c2 W hS hT (by omega) (by omega) hz
  rw [hk] at c1
  have c3 := fun w (h : SbIn w A S) => rempty_c S A c w h (by omega)
  have c4 := fun s w (h : SbIn w A S) => rtakers_c S A c s w h (by omega) hz
  have HS := Lib.hid hS
  have HT := Lib.hid hT
  clear hS hT hmS hmT hk hok
  obtain ⟨i0, hi, hz0, hz1, hz2⟩ := info_parts infoPart
  unfold GotSh
  go_enter Try.func61, Try.ntmps61
  go_wp2_with fail
  with_reducible refine c1.mono ?_
  rintro e w1 ⟨rfl, hb1⟩
  have HB1 := Lib.hid hb1
  clear hb1 c1
  go_wp2_with fail
  with_reducible refine (c3 _ (HS.out.below HB1.out)).mono ?_
  rintro e w2 ⟨B, e0, rfl, hrow2, hb2⟩
  have HR0 : Hid (RgS W S (.slice B S.length e0) (rangeD S (T.take 0)) (emptyR S) w2) := Lib.hid (start_c (fun k => rfl) HB1.out hrow2 hb2)
  clear hrow2 hb2 HB1 c3
  go_wp2_with fail
  go_loopw [8, 9, 10, 11, 12, 13] (fun i _ _ _ _ _ wr => ∃ (k : Nat) (R : List (Int × Value)), i = .int .i64 k ∧ k ≤ T.length ∧ RgS W S (.slice B S.length e0) (rangeD S (T.take k)) R wr) (fun i _ _ _ _ _ _ => T.length - (intOf i).toNat)
  case atStart => exact ⟨0, _, rfl, Nat.zero_le _, HR0.out⟩
  case round =>
    obtain ⟨k, R, rfl, hkl, hP⟩ := hrel
    have HP := Lib.hid hP
    clear hP HR0
    by_cases hk : k < T.length
    · have hx : T[k]? = some T[k] := List.getElem?_eq_getElem hk
      obtain ⟨b, off, rfl, hlt0, y00, y01⟩ := HT.out.at_ hk
      have y0 := (HP.out.bel.cell (p := ⟨b, off + k * 2, none⟩) hlt0).trans y00
      have y1 := (HP.out.bel.cell (p := ⟨b, off + k * 2 + 1, none⟩) hlt0).trans y01
      have hki : (k : Int) < (T.length : Int) := by omega
      have hok := okT_iff.1 (hokT _ (List.getElem_mem hk))
      have HSU := Lib.hid (rangeD_succ (S := S) hx)
      have HLN := Lib.hid (rangeD_len (S := S) (fun t ht => (okT_iff.1 (hokT t ht)).2) k (by omega))
      clear hx
      generalize T[k] = t at *
      obtain ⟨s, n'⟩ := t
      obtain ⟨n, rfl⟩ : ∃ n : Nat, n' = n := ⟨n'.toNat, by simp only at hok; omega⟩
      have hn1 : 1 ≤ n := by simp only at hok; omega
      have hn2 : n ≤ 16 := by simp only at hok; omega
      simp only at y0 y1 y00 y01
      have HTC := Lib.hid (fun w (h : Below W.heap.size W w) => And.intro ((h.cell (p := ⟨b, off + k * 2, none⟩) hlt0).trans y00) ((h.cell (p := ⟨b, off + k * 2 + 1, none⟩) hlt0).trans y01))
      have c5 := c4 s wr (HS.out.below HP.out.bel)
      clear hok hokT c4 y00 y01
      go_wp2_with fail
      with_reducible refine c5.mono ?_
      rintro e w3 ⟨A3, c3, rfl, htk, hb3⟩
      have HI0 : Hid (RrI W S (.slice B S.length e0) A3 c3 (takersG S s S.length) (rangeD S (T.take k)) R w3) := Lib.hid ⟨HP.out.later hb3, own_base htk HP.out.bel.size⟩
      have hTL := takersG_len S s S.length
      have HML := Lib.hid (fun i m => take_le (S := S) (s := s) (i := i) (m := m))
      have HDS : Hid (stepR S (rangeD S (T.take k)) (s, (n : Int)) = dealK (takersG S s S.length) s n (rangeD S (T.take k)) (takersG S s S.length).length) := Lib.hid (by unfold stepR; rfl)
      clear hb3 htk c5 HP y0 y1
      generalize takersG S s S.length = L at *
      generalize rangeD S (T.take k) = D0 at *
      go_wp2_with fail
      go_loopw [10, 11, 12, 13] (fun nx j _ _ wr => ∃ (x : Nat) (R' : List (Int × Value)), j = .int .i64 x ∧ x ≤ L.length ∧ nx = .int .i64 (offN n L.length x : Nat) ∧ RrI W S (.slice B S.length e0) A3 c3 L (dealK L s n D0 x) R' wr) (fun _ j _ _ _ => L.length - (intOf j).toNat)
      case atStart => exact ⟨0, R, rfl, Nat.zero_le _, by rw [offN_zero]; rfl, HI0.out⟩
      case round =>
        obtain ⟨x, R', rfl, hxl, rfl, hI⟩ := hrel
        have HI := Lib.hid hI
        clear HI0
        by_cases hxk : x < L.length
        · obtain ⟨m, hge⟩ : ∃ m, L[x]? = some m := ⟨_, List.getElem?_eq_getElem hxk⟩
          clear hI
          obtain ⟨q, hq⟩ : ∃ q : Nat, n / L.length = q := ⟨_, rfl⟩
          obtain ⟨rr, hrr⟩ : ∃ rr : Nat, n % L.length = rr := ⟨_, rfl⟩
          have hdiv : Int.tdiv (n : Int) (L.length : Int) = (q : Int) := by rw [Int.tdiv_eq_ediv_of_nonneg (by omega), ← hq]; rfl
          have hmod : Int.tmod (n : Int) (L.length : Int) = (rr : Int) := by rw [Int.tmod_eq_emod_of_nonneg (by omega), ← hrr]; rfl
          have hdl : q ≤ 16 := by rw [← hq]; exact Nat.le_trans (Nat.div_le_self _ _) hn2
          have hml : rr ≤ 16 := by rw [← hrr]; exact Nat.le_trans (Nat.mod_le _ _) hn2
          have hrw : rowN n L.length x = if x < rr then q + 1 else q := by unfold rowN; rw [hq, hrr]; split <;> rfl
          have hLz : (L.length : Int) ≠ 0 := by omega
          have hxi : (x : Int) < (L.length : Int) := by omega
          have hw1 : IntKind.i64.wrap (q : Int) = (q : Int) := by rw [IntKind.wrap_i64]; omega
          have hw2 : IntKind.i64.wrap ((q : Int) + 1) = (q : Int) + 1 := by rw [IntKind.wrap_i64]; omega
          have hw3 : IntKind.i64.wrap (rr : Int) = (rr : Int) := by rw [IntKind.wrap_i64]; omega
          obtain ⟨y0, y1⟩ := HTC.out _ HI.out.st.bel
          have HDK := Lib.hid (dealK_succ (s := s) (n := n) (D := D0) hge)
          have HGE := Lib.hid hge
          have HRW := Lib.hid hrw
          clear hq hrr hge
          go_upto_if 58 with fail
          go_cut [12] from 58 to 60 (fun v wx => v = .int .i64 (rowN n L.length x : Nat) ∧ wr = wx)
          case first =>
            by_cases hr : x < rr
            · have hri : (x : Int) < (rr : Int) := by omega
              rw [if_pos hr] at hrw
              go_wp2_with fail
              go_meet
              refine ⟨?_, ?_⟩ <;> first | rfl | (rw [hrw]; done) | (rw [hrw]; rfl)
            · have hri : ¬ (x : Int) < (rr : Int) := by omega
              rw [if_neg hr] at hrw
              go_wp2_with fail
              go_meet
              refine ⟨?_, ?_⟩ <;> first | rfl | (rw [hrw]; done) | (rw [hrw]; rfl)
          case rest =>
            obtain ⟨rfl, rfl⟩ := hcut
            have hof := offN_le (n := n) hxk
            clear hdiv hmod hw1 hw2 hw3 y0 y1 hrw hdl hml
            go_wp2_with fail
            go_loopw [10, 13] (fun nx j wr => ∃ (y : Nat) (R2 : List (Int × Value)), j = .int .i64 y ∧ y ≤ rowN n L.length x ∧ nx = .int .i64 (offN n L.length x + y : Nat) ∧ RrI W S (.slice B S.length e0) A3 c3 L (updD (dealK L s n D0 x) m (dealK L s n D0 x m ++ (chunkN s n L.length x).take y)) R2 wr) (fun _ j _ => rowN n L.length x - (intOf j).toNat)
            case atStart => exact ⟨0, R', rfl, Nat.zero_le _, rfl, by rw [chunk_zero, List.append_nil, updD_self]; exact HI.out⟩
            case round =>
              obtain ⟨y, R2, rfl, hyl, rfl, hJ⟩ := hrel
              by_cases hyk : y < rowN n L.length x
              · have HJ := Lib.hid hJ
                have hyi : (y : Int) < (rowN n L.length x : Int) := by omega
                clear hJ HI
                obtain ⟨gt, rfl, hgt, v0⟩ := ints_at HJ.out.tak HGE.out
                have hmS := HML.out x _ HGE.out
                have hRl : R2.length = S.length := by have := congrArg List.length HJ.out.st.mem; simpa using this
                obtain ⟨r, hge2⟩ : ∃ r, R2[m]? = some r := ⟨_, List.getElem?_eq_getElem (by omega)⟩
                obtain ⟨hnR, g, rfl, hgl, hbg, p0, p1, p2⟩ := HJ.out.st.sh.at_ hge2
                have hDl : (updD (dealK L s n D0 x) m (dealK L s n D0 x m ++ (chunkN s n L.length x).take y) m).length ≤ 1000 := by
                  rw [updD_at, List.length_append]
                  have h1 := dealK_len (L := L) (s := s) (n := n) (D := D0) x (by omega) m
                  have h2 := HLN.out m
                  have h5 : (List.take y (chunkN s n L.length x)).length ≤ y := List.length_take_le _ _
                  omega
                have hCS := chunk_succ (s := s) (n := n) hxk hyk
                have hAP := RrI.app HJ.out hge2 (hA := rfl) HGE.out s ((offN n L.length x + y : Nat) : Int) (.cells #[.string s, .int .i64 ((offN n L.length x + y : Nat) : Int)] 56)
                have hUP : updD (updD (dealK L s n D0 x) m (dealK L s n D0 x m ++ (chunkN s n L.length x).take y)) m (updD (dealK L s n D0 x) m (dealK L s n D0 x m ++ (chunkN s n L.length x).take y) m ++ [(s, ((offN n L.length x + y : Nat) : Int))]) = updD (dealK L s n D0 x) m (dealK L s n D0 x m ++ (chunkN s n L.length x).take (y + 1)) := by
                  rw [updD_twice, updD_at, hCS, List.append_assoc]
                rw [hUP] at hAP
                have hoi : offN n L.length x + y ≤ 16 := by omega
                have hoa : offN n L.length x + (y + 1) = offN n L.length x + y + 1 := rfl
                have HOA := Lib.hid hoa
                have hrow := own_below (HJ.out.st.sh.parts m r hge2) (show Below wr.heap.size wr (wr.alloc (.cells #[.string s, .int .i64 ((offN n L.length x + y : Nat) : Int)] 56)).drew from ((Below.refl _ _).alloc (Nat.le_refl _) _).drew)
                have hnw := news_at (Box.new wr.drew 56 #[.string s, .int .i64 ((offN n L.length x + y : Nat) : Int)])
                have hbw := HJ.out.st.bel.size
                have hBA : Below wr.heap.size wr (wr.alloc (.cells #[.string s, .int .i64 ((offN n L.length x + y : Nat) : Int)] 56)) := (Below.refl _ _).alloc (Nat.le_refl _) _
                have pa := (hBA.cell (p := ⟨g, m * 2 + 1, none⟩) hgl).trans p1
                have hKS : ∀ w, Below W.heap.size W w → w.ownsRow W.heap.size 3 1 (.slice (some ⟨gt, 0, none⟩) L.length c3) L.length (intsC L) → w.cell? ⟨gt, x, none⟩ = some (.int .i64 (m : Int)) ∧ w.cell? ⟨b, off + k * 2, none⟩ = some (.string s) := fun w hb ht => by
                  obtain ⟨gt1, e1, _, v1⟩ := ints_at ht HGE.out
                  injection e1 with e1
                  injection e1 with e1
                  subst e1
                  exact ⟨v1, (HTC.out w hb).1⟩
                have hS0 := hKS _ (HJ.out.st.bel.trans (((Below.refl wr.heap.size wr).drew).mono HJ.out.st.bel.size)) HJ.out.tak
                have hSa := hKS _ (HJ.out.st.bel.trans (hBA.drew.mono HJ.out.st.bel.size)) (own_below HJ.out.tak hBA.drew)
                have HKS := Lib.hid hKS
                have hxi0 : (0 : Int) ≤ (x : Int) := by omega
                have hmi : (m : Int) < (S.length : Int) := by omega
                have hm0 : (0 : Int) ≤ (m : Int) := by omega
                have HAP := Lib.hid hAP
                clear hUP hCS hAP hnR hRl hbg hge2 hBA HJ hmS hLz hKS v0 hgt hoa
                generalize updD (dealK L s n D0 x) m (dealK L s n D0 x m ++ (chunkN s n L.length x).take y) = Dx at *
                generalize offN n L.length x + y = ix at *
                go_wp2_with fail
                refine wp_region_held_drew (S := (fun w => w.cell? ⟨gt, x, none⟩ = some (.int .i64 (m : Int)) ∧ w.cell? ⟨b, off + k * 2, none⟩ = some (.string s))) (by kernel_rfl) hS0 (fun hHeld => ?_)
                refine takeW (i := 0) (v := ?v1) rfl (by kernel_rfl) (by kernel_rfl) (by kernel_rfl) (fun _ _ _ h => h) (by kernel_rfl) hHeld ?hy1 ?rest1
                case hy1 => (intro w hSw; (try dsimp only at hSw); go_simp; (try with_reducible rfl))
                try simp only [Act.put, List.setIfInBounds_toArray, List.set_cons_zero, List.set_cons_succ]
                refine takeW (i := 1) (v := ?v2) rfl (by kernel_rfl) (by kernel_rfl) (by kernel_rfl) (fun _ _ _ h => h) (by kernel_rfl) hHeld ?hy2 ?rest2
                case hy2 => (intro w hSw; (try dsimp only at hSw); go_simp; (try with_reducible rfl))
                try simp only [Act.put, List.setIfInBounds_toArray, List.set_cons_zero, List.set_cons_succ]
                refine takeW (i := 2) (v := ?v3) rfl (by kernel_rfl) (by kernel_rfl) (by kernel_rfl) (fun _ _ _ h => h) (by kernel_rfl) hHeld ?hy3 ?rest3
                case hy3 => (intro w hSw; (try dsimp only at hSw); go_simp; (try with_reducible rfl))
                try simp only [Act.put, List.setIfInBounds_toArray, List.set_cons_zero, List.set_cons_succ]
                refine takeW (i := 3) (v := ?v4) rfl (by kernel_rfl) (by kernel_rfl) (by kernel_rfl) (fun _ _ _ h => h) (by kernel_rfl) hHeld ?hy4 ?rest4
                case hy4 => (intro w hSw; (try dsimp only at hSw); go_simp; (try with_reducible rfl))
                try simp only [Act.put, List.setIfInBounds_toArray, List.set_cons_zero, List.set_cons_succ]
                refine takeW (i := 4) (v := ?v5) rfl (by kernel_rfl) (by kernel_rfl) (by kernel_rfl) (fun _ _ _ h => h) (by kernel_rfl) hHeld ?hy5 ?rest5
                case hy5 => (intro w hSw; (try dsimp only at hSw); go_simp; (try with_reducible rfl))
                try simp only [Act.put, List.setIfInBounds_toArray, List.set_cons_zero, List.set_cons_succ]
                refine takeW (i := 5) (v := ?v6) rfl (by kernel_rfl) (by kernel_rfl) (by kernel_rfl) (fun _ _ _ h => h) (by kernel_rfl) hHeld ?hy6 ?rest6
                case hy6 => (intro w hSw; (try dsimp only at hSw); go_simp; (try with_reducible rfl))
                try simp only [Act.put, List.setIfInBounds_toArray, List.set_cons_zero, List.set_cons_succ]
                refine takeW (i := 6) (v := ?v7) rfl (by kernel_rfl) (by kernel_rfl) (by kernel_rfl) (fun _ _ _ h => h) (by kernel_rfl) hHeld ?hy7 ?rest7
                case hy7 => (intro w hSw; (try dsimp only at hSw); go_simp; (try with_reducible rfl))
                try simp only [Act.put, List.setIfInBounds_toArray, List.set_cons_zero, List.set_cons_succ]
                refine takeW (i := 7) (v := ?v8) rfl (by kernel_rfl) (by kernel_rfl) (by kernel_rfl) (fun _ _ _ h => h) (by kernel_rfl) hHeld ?hy8 ?rest8
                case hy8 => (intro w hSw; (try dsimp only at hSw); go_simp; (try with_reducible rfl))
                try simp only [Act.put, List.setIfInBounds_toArray, List.set_cons_zero, List.set_cons_succ]
                refine takeW (i := 8) (v := ?v9) rfl (by kernel_rfl) (by kernel_rfl) (by kernel_rfl) (fun _ _ _ h => h) (by kernel_rfl) hHeld ?hy9 ?rest9
                case hy9 => (intro w hSw; (try dsimp only at hSw); go_simp; (try with_reducible rfl))
                try simp only [Act.put, List.setIfInBounds_toArray, List.set_cons_zero, List.set_cons_succ]
                refine takeW (i := 9) (v := ?v10) rfl (by kernel_rfl) (by kernel_rfl) (by kernel_rfl) (fun _ _ _ h => h) (by kernel_rfl) hHeld ?hy10 ?rest10
                case hy10 => (intro w hSw; (try dsimp only at hSw); go_simp; (try with_reducible rfl))
                try simp only [Act.put, List.setIfInBounds_toArray, List.set_cons_zero, List.set_cons_succ]
                refine takeW (i := 10) (v := ?v11) rfl (by kernel_rfl) (by kernel_rfl) (by kernel_rfl) (fun _ _ _ h => h) (by kernel_rfl) hHeld ?hy11 ?rest11
                case hy11 => (intro w hSw; (try dsimp only at hSw); go_simp; (try with_reducible rfl))
                try simp only [Act.put, List.setIfInBounds_toArray, List.set_cons_zero, List.set_cons_succ]
                refine takeW (i := 11) (v := ?v12) rfl (by kernel_rfl) (by kernel_rfl) (by kernel_rfl) (fun _ _ _ h => h) (by kernel_rfl) hHeld ?hy12 ?rest12
                case hy12 => (intro w hSw; (try dsimp only at hSw); go_simp; (try with_reducible rfl))
                try simp only [Act.put, List.setIfInBounds_toArray, List.set_cons_zero, List.set_cons_succ]
                refine takeW (i := 13) (v := ?v13) rfl (by kernel_rfl) (by kernel_rfl) (by kernel_rfl) (fun _ _ _ h => h) (by kernel_rfl) hHeld ?hy13 ?rest13
                case hy13 => (intro w hSw; (try dsimp only at hSw); go_simp; (try with_reducible rfl))
                try simp only [Act.put, List.setIfInBounds_toArray, List.set_cons_zero, List.set_cons_succ]
                refine takeW (i := 14) (v := ?v14) rfl (by kernel_rfl) (by kernel_rfl) (by kernel_rfl) (fun _ _ _ h => h) (by kernel_rfl) hHeld ?hy14 ?rest14
                case hy14 => (intro w hSw; (try dsimp only at hSw); go_simp; (try with_reducible rfl))
                try simp only [Act.put, List.setIfInBounds_toArray, List.set_cons_zero, List.set_cons_succ]
                refine takeW (i := 15) (v := ?v15) rfl (by kernel_rfl) (by kernel_rfl) (by kernel_rfl) (fun _ _ _ h => h) (by kernel_rfl) hHeld ?hy15 ?rest15
                case hy15 => (intro w hSw; (try dsimp only at hSw); go_simp; (try with_reducible rfl))
                try simp only [Act.put, List.setIfInBounds_toArray, List.set_cons_zero, List.set_cons_succ]
                refine takeW (i := 16) (v := ?v16) rfl (by kernel_rfl) (by kernel_rfl) (by kernel_rfl) (fun _ _ _ h => h) (by kernel_rfl) hHeld ?hy16 ?rest16
                case hy16 => (intro w hSw; (try dsimp only at hSw); go_simp; (try with_reducible rfl))
                try simp only [Act.put, List.setIfInBounds_toArray, List.set_cons_zero, List.set_cons_succ]
                refine takeW (i := 17) (v := ?v17) rfl (by kernel_rfl) (by kernel_rfl) (by kernel_rfl) (fun _ _ _ h => h) (by kernel_rfl) hHeld ?hy17 ?rest17
                case hy17 => (intro w hSw; (try dsimp only at hSw); go_simp; (try with_reducible rfl))
                try simp only [Act.put, List.setIfInBounds_toArray, List.set_cons_zero, List.set_cons_succ]
                refine takeW (i := 18) (v := ?v18) rfl (by kernel_rfl) (by kernel_rfl) (by kernel_rfl) (fun _ _ _ h => h) (by kernel_rfl) hHeld ?hy18 ?rest18
                case hy18 => (intro w hSw; (try dsimp only at hSw); go_simp; (try with_reducible rfl))
                try simp only [Act.put, List.setIfInBounds_toArray, List.set_cons_zero, List.set_cons_succ]
                refine takeW (i := 19) (v := ?v19) rfl (by kernel_rfl) (by kernel_rfl) (by kernel_rfl) (fun _ _ _ h => h) (by kernel_rfl) hHeld ?hy19 ?rest19
                case hy19 => (intro w hSw; (try dsimp only at hSw); go_simp; (try with_reducible rfl))
                try simp only [Act.put, List.setIfInBounds_toArray, List.set_cons_zero, List.set_cons_succ]
                refine wpAnyH_ready (rs := [12, 20]) (by kernel_rfl) (by simp) ?_
                refine consL rfl (by kernel_rfl) (fun K hK => ?bA20) (consL rfl (by kernel_rfl) (fun K hK => ?bB20) AllReadyH.nil)
                case bA20 =>
                  go_simp
                  refine hK.out _ _ (hS0) (fun hHeld => ?_)
                  clear hK K
                  try simp only [Act.put, List.setIfInBounds_toArray, List.set_cons_zero, List.set_cons_succ]
                  refine wpAnyH_ready (rs := [20]) (by kernel_rfl) (by simp) ?_
                  refine consL rfl (by kernel_rfl) (fun K hK => ?_) AllReadyH.nil
                  go_simp
                  refine hK.out _ _ (hSa) (fun hHeld => ?_)
                  clear hK K
                  try simp only [Act.put, List.setIfInBounds_toArray, List.set_cons_zero, List.set_cons_succ]
                  refine wpAnyH_ready (rs := [21]) (by kernel_rfl) (by simp) ?_
                  refine consL rfl (by kernel_rfl) (fun K hK => ?_) AllReadyH.nil
                  (refine wp_append_lies (w := (wr.alloc (.cells #[.string s, .int .i64 (ix : Int)] 56)).drew) (.tmp 78) (.tmp 86) 32 rfl W.heap.size 56 i0 (.agg #[.string ⟨#[]⟩, .int .i64 0]) 2 24 Try.underlying32 hi hz0 hz1 hz2 rfl (by decide) r.2 (Dx m).length (prtC (Dx m)) (by simp [Act.eval]) hrow ⟨wr.heap.size, 0, none⟩ 1 1 [.string s, .int .i64 (ix : Int)] (by simp [Act.eval]) rfl hnw (by simp [Value.oneCell']) (by decide) (by unfold maxLen; omega) (by omega) (by simp; omega) (wr.heap.size + 1) (by simp) ?_; intro g2 cap2 w4 hown4 hgrow4 hg4 hlt4; obtain ⟨k1, k2, k3, k4, k5, k7, k6⟩ := HAP.out g2 cap2 w4 hown4 hgrow4 hg4; have hS4 := HKS.out _ k7.out.1 k7.out.2; have hS5 := HKS.out _ k6.out.st.bel k6.out.tak)
                  refine hK.out _ _ (hS4) (fun hHeld => ?_)
                  clear hK K
                  try simp only [Act.put, List.setIfInBounds_toArray, List.set_cons_zero, List.set_cons_succ]
                  refine takeW (i := 22) (v := ?v21) rfl (by kernel_rfl) (by kernel_rfl) (by kernel_rfl) (fun _ _ _ h => h) (by kernel_rfl) hHeld ?hy21 ?rest21
                  case hy21 => (intro w hSw; (try dsimp only at hSw); go_simp; (try with_reducible rfl))
                  try simp only [Act.put, List.setIfInBounds_toArray, List.set_cons_zero, List.set_cons_succ]
                  refine takeW (i := 23) (v := ?v22) rfl (by kernel_rfl) (by kernel_rfl) (by kernel_rfl) (fun _ _ _ h => h) (by kernel_rfl) hHeld ?hy22 ?rest22
                  case hy22 => (intro w hSw; (try dsimp only at hSw); go_simp; (try with_reducible rfl))
                  try simp only [Act.put, List.setIfInBounds_toArray, List.set_cons_zero, List.set_cons_succ]
                  refine wpAnyH_ready (rs := [24]) (by kernel_rfl) (by simp) ?_
                  refine consL rfl (by kernel_rfl) (fun K hK => ?_) AllReadyH.nil
                  go_simp
                  refine hK.out _ _ (hS5) (fun hHeld => ?_)
                  clear hK K
                  try simp only [Act.put, List.setIfInBounds_toArray, List.set_cons_zero, List.set_cons_succ]
                  refine wpAnyH_done (by kernel_rfl) ?_ _
                  go_wp2_with fail
                  go_roundw
                  case rel => exact ⟨y + 1, _, by go_num, hyk, by rw [HOA.out]; go_num, k6.out⟩
                  case measure => simp [intOf]; omega
                case bB20 =>
                  go_simp
                  refine hK.out _ _ (hSa) (fun hHeld => ?_)
                  clear hK K
                  try simp only [Act.put, List.setIfInBounds_toArray, List.set_cons_zero, List.set_cons_succ]
                  refine wpAnyH_ready (rs := [12]) (by kernel_rfl) (by simp) ?_
                  refine consL rfl (by kernel_rfl) (fun K hK => ?_) AllReadyH.nil
                  go_simp
                  refine hK.out _ _ (hSa) (fun hHeld => ?_)
                  clear hK K
                  try simp only [Act.put, List.setIfInBounds_toArray, List.set_cons_zero, List.set_cons_succ]
                  refine wpAnyH_ready (rs := [21]) (by kernel_rfl) (by simp) ?_
                  refine consL rfl (by kernel_rfl) (fun K hK => ?_) AllReadyH.nil
                  (refine wp_append_lies (w := (wr.alloc (.cells #[.string s, .int .i64 (ix : Int)] 56)).drew) (.tmp 78) (.tmp 86) 32 rfl W.heap.size 56 i0 (.agg #[.string ⟨#[]⟩, .int .i64 0]) 2 24 Try.underlying32 hi hz0 hz1 hz2 rfl (by decide) r.2 (Dx m).length (prtC (Dx m)) (by simp [Act.eval]) hrow ⟨wr.heap.size, 0, none⟩ 1 1 [.string s, .int .i64 (ix : Int)] (by simp [Act.eval]) rfl hnw (by simp [Value.oneCell']) (by decide) (by unfold maxLen; omega) (by omega) (by simp; omega) (wr.heap.size + 1) (by simp) ?_; intro g2 cap2 w4 hown4 hgrow4 hg4 hlt4; obtain ⟨k1, k2, k3, k4, k5, k7, k6⟩ := HAP.out g2 cap2 w4 hown4 hgrow4 hg4; have hS4 := HKS.out _ k7.out.1 k7.out.2; have hS5 := HKS.out _ k6.out.st.bel k6.out.tak)
                  refine hK.out _ _ (hS4) (fun hHeld => ?_)
                  clear hK K
                  try simp only [Act.put, List.setIfInBounds_toArray, List.set_cons_zero, List.set_cons_succ]
                  refine takeW (i := 22) (v := ?v23) rfl (by kernel_rfl) (by kernel_rfl) (by kernel_rfl) (fun _ _ _ h => h) (by kernel_rfl) hHeld ?hy23 ?rest23
                  case hy23 => (intro w hSw; (try dsimp only at hSw); go_simp; (try with_reducible rfl))
                  try simp only [Act.put, List.setIfInBounds_toArray, List.set_cons_zero, List.set_cons_succ]
                  refine takeW (i := 23) (v := ?v24) rfl (by kernel_rfl) (by kernel_rfl) (by kernel_rfl) (fun _ _ _ h => h) (by kernel_rfl) hHeld ?hy24 ?rest24
                  case hy24 => (intro w hSw; (try dsimp only at hSw); go_simp; (try with_reducible rfl))
                  try simp only [Act.put, List.setIfInBounds_toArray, List.set_cons_zero, List.set_cons_succ]
                  refine wpAnyH_ready (rs := [24]) (by kernel_rfl) (by simp) ?_
                  refine consL rfl (by kernel_rfl) (fun K hK => ?_) AllReadyH.nil
                  go_simp
                  refine hK.out _ _ (hS5) (fun hHeld => ?_)
                  clear hK K
                  try simp only [Act.put, List.setIfInBounds_toArray, List.set_cons_zero, List.set_cons_succ]
                  refine wpAnyH_done (by kernel_rfl) ?_ _
                  go_wp2_with fail
                  go_roundw
                  case rel => exact ⟨y + 1, _, by go_num, hyk, by rw [HOA.out]; go_num, k6.out⟩
                  case measure => simp [intOf]; omega
              · have hyy : y = rowN n L.length x := by omega
                subst hyy
                have HJ : Hid (RrI W S (.slice B S.length e0) A3 c3 L (dealK L s n D0 (x + 1)) R2 wr) := Lib.hid (by rw [HDK.out, ← chunk_all hxk]; exact hJ)
                have HOF : Hid (offN n L.length x + rowN n L.length x = offN n L.length (x + 1)) := Lib.hid (by rw [offN_succ])
                have hyi : ¬ ((rowN n L.length x : Nat) : Int) < (rowN n L.length x : Int) := by omega
                clear hJ HI
                go_wp2_with fail
                go_roundw
                case rel => exact ⟨x + 1, R2, by go_num, hxk, by rw [HOF.out], HJ.out⟩
                case measure => simp [intOf]; omega
        · have hxx : x = L.length := by omega
          subst hxx
          rw [← HDS.out, ← HSU.out] at hI
          have HQ := Lib.hid hI.st
          clear hI HI
          go_wp2_with fail
          go_roundw
          case rel => exact ⟨k + 1, R', by go_num, hk, HQ.out⟩
          case measure => simp [intOf]; omega
    · have hkk : k = T.length := by omega
      subst hkk
      have HQ : Hid (RgS W S (.slice B S.length e0) (rangeD S T) R wr) := Lib.hid (by have := HP.out; rwa [List.take_length] at this)
      clear HP
      go_wp2_with fail
      go_ret2
      exact ⟨B, e0, R, rfl, HQ.out.sh, HQ.out.mem, HQ.out.bel⟩
end Go.Proofs.Ythbcklamhoekmaa
