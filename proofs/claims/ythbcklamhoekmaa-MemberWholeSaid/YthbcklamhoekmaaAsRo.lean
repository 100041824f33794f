/- assign: the document's Round, by a contract: the walk. No condition. -/
import Derived.Test.YthbcklamhoekmaaAsRm
import Derived.Deep.RegionHeld3
namespace Go.Proofs.Ythbcklamhoekmaa
open Go.RowKit
set_option linter.unusedVariables false
theorem sub3_later {w w' : World} {b b2 i j k : Nat} {u v x : Value} (h : w.cell? ⟨b, i, none⟩ = some u ∧ w.cell? ⟨b, j, none⟩ = some v ∧ w.cell? ⟨b2, k, none⟩ = some x ∧ b < w.heap.size ∧ b2 < w.heap.size) (hb : Below w.heap.size w w') : w'.cell? ⟨b, i, none⟩ = some u ∧ w'.cell? ⟨b, j, none⟩ = some v ∧ w'.cell? ⟨b2, k, none⟩ = some x ∧ b < w'.heap.size ∧ b2 < w'.heap.size :=
  ⟨(hb.cell (p := ⟨b, i, none⟩) h.2.2.2.1).trans h.1, (hb.cell (p := ⟨b, j, none⟩) h.2.2.2.1).trans h.2.1, (hb.cell (p := ⟨b2, k, none⟩) h.2.2.2.2).trans h.2.2.1, Nat.lt_of_lt_of_le h.2.2.2.1 hb.size, Nat.lt_of_lt_of_le h.2.2.2.2 hb.size⟩
set_option maxHeartbeats 32000000 in
set_option maxRecDepth 100000 in
theorem rround_c (S : List SX) (A : Option Addr) (c : Nat) (T : List TX) (A2 : Option Addr) (c2 : Nat) (W : World) (hS : SbIn W A S) (hT : TpIn W A2 T) (hz : ∀ x ∈ S, x.2.1.length ≤ 140737488351232) (hk : chkE S T = 0) :
    Calls Try.prog 62 #[.slice A S.length c, .slice A2 T.length c2] W (GotSh W S (roundD S T).1) := by
  obtain ⟨hmS, hmT⟩ := chk_ok hk
  obtain ⟨hl, hok, _⟩ := mayS_iff.1 hmS
  obtain ⟨hl2, hokT, _⟩ := mayT_iff.1 hmT
  have c1 := rcheck_c S A c T A2 c2 W hS hT (by omega) (by omega) hz
  rw [hk] at c1
  have c3 := fun w (h : SbIn w A S) => rempty_c S A c w h (by omega)
  have HS := Lib.hid hS
  have HT := Lib.hid hT
  have hll : IntKind.i64.wrap ((S.length : Int) - 1) = lastOf S.length (-1) := by rw [IntKind.wrap_i64]; unfold lastOf; rw [if_pos rfl]; omega
  clear hS hT hmS hmT hk hok
  obtain ⟨i0, hi, hz0, hz1, hz2⟩ := info_parts infoPart
  unfold GotSh
  go_enter Try.func62, Try.ntmps62
  go_wp2_with fail
  with_reducible refine c1.mono ?_
  rintro e w1 ⟨rfl, hb1⟩
  have HB1 := Lib.hid hb1
  clear hb1 c1
  go_wp2_with fail
  with_reducible refine (c3 _ (HS.out.below HB1.out)).mono ?_
  rintro e w2 ⟨B, e0, rfl, hrow2, hb2⟩
  have HR0 : Hid (RgS W S (.slice B S.length e0) (roundD S (T.take 0)).1 (emptyR S) w2) := Lib.hid (start_c (fun k => rfl) HB1.out hrow2 hb2)
  clear hrow2 hb2 HB1 c3
  go_wp2_with fail
  go_loopw [8, 9, 10, 11, 12] (fun la i _ _ _ wr => ∃ (k : Nat) (R : List (Int × Value)), i = .int .i64 k ∧ k ≤ T.length ∧ la = .int .i64 (lastOf S.length (roundD S (T.take k)).2) ∧ ((roundD S (T.take k)).2 = -1 ∨ (0 ≤ (roundD S (T.take k)).2 ∧ (roundD S (T.take k)).2 < (S.length : Int))) ∧ RgS W S (.slice B S.length e0) (roundD S (T.take k)).1 R wr) (fun _ i _ _ _ _ => T.length - (intOf i).toNat)
  case atStart => exact ⟨0, _, rfl, Nat.zero_le _, rfl, .inl rfl, HR0.out⟩
  case round =>
    obtain ⟨k, R, rfl, hkl, rfl, hbd, hP⟩ := hrel
    have HP := Lib.hid hP
    have HBD := Lib.hid hbd
    clear hP HR0 hbd hll
    by_cases hk : k < T.length
    · have hx : T[k]? = some T[k] := List.getElem?_eq_getElem hk
      obtain ⟨b, off, rfl, hlt0, y00, y01⟩ := HT.out.at_ hk
      have hki : (k : Int) < (T.length : Int) := by omega
      have hk0 : (0 : Int) ≤ (k : Int) := by omega
      have hok := okT_iff.1 (hokT _ (List.getElem_mem hk))
      have HSU := Lib.hid (roundD_succ (S := S) hx)
      have HLN := Lib.hid (roundD_len (S := S) (fun t ht => (okT_iff.1 (hokT t ht)).2) k (by omega))
      clear hx
      generalize T[k] = t at *
      obtain ⟨s, n'⟩ := t
      obtain ⟨n, rfl⟩ : ∃ n : Nat, n' = n := ⟨n'.toNat, by simp only at hok; omega⟩
      have hn1 : 1 ≤ n := by simp only at hok; omega
      have hn2 : n ≤ 16 := by simp only at hok; omega
      simp only at y00 y01
      have HTC := Lib.hid (fun w (h : Below W.heap.size W w) => And.intro ((h.cell (p := ⟨b, off + k * 2, none⟩) hlt0).trans y00) (And.intro ((h.cell (p := ⟨b, off + k * 2 + 1, none⟩) hlt0).trans y01) (Nat.lt_of_lt_of_le hlt0 h.size)))
      have HST : Hid (roundD S (T.take (k + 1)) = stP (takersG S s S.length) s (roundD S (T.take k)) n) := Lib.hid (by rw [HSU.out]; rfl)
      have HMEM := Lib.hid (fun i => takersG_mem (S := S) (s := s) (k := S.length) (i := i))
      have HSO := Lib.hid (takersG_sorted S s S.length)
      clear hok hokT y00 y01 HSU hlt0
      generalize takersG S s S.length = L at *
      generalize roundD S (T.take k) = D0 at *
      go_wp2_with fail
      go_loopw [8, 10, 11, 12] (fun la j _ _ wr => ∃ (p : Nat) (R' : List (Int × Value)), j = .int .i64 p ∧ p ≤ n ∧ la = .int .i64 (lastOf S.length (stP L s D0 p).2) ∧ ((stP L s D0 p).2 = -1 ∨ (0 ≤ (stP L s D0 p).2 ∧ (stP L s D0 p).2 < (S.length : Int))) ∧ RgS W S (.slice B S.length e0) (stP L s D0 p).1 R' wr) (fun _ j _ _ _ => n - (intOf j).toNat)
      case atStart => exact ⟨0, R, rfl, Nat.zero_le _, by rw [stP_zero], by rw [stP_zero]; exact HBD.out, by rw [stP_zero]; exact HP.out⟩
      case round =>
        clear HP HBD
        obtain ⟨p, R', rfl, hpl, rfl, hbd, hI⟩ := hrel
        have HI := Lib.hid hI
        have HBD := Lib.hid hbd
        clear hI hbd
        obtain ⟨y0, y1, _⟩ := HTC.out _ HI.out.bel
        by_cases hpk : p < n
        · have hpi : (p : Int) < (n : Int) := by omega
          go_wp2_with fail
          clear y0 y1
          go_loopw [8, 11, 12] (fun la j _ wr => ∃ (x : Nat), j = .int .i64 ((x : Int) + 1) ∧ x ≤ S.length ∧ la = .int .i64 (lastOf S.length (stP L s D0 p).2) ∧ (∀ l : Nat, lastOf S.length (stP L s D0 p).2 = (l : Int) → ∀ j, 1 ≤ j → j < x + 1 → (l + j) % S.length ∉ L) ∧ RgS W S (.slice B S.length e0) (stP L s D0 p).1 R' wr) (fun _ j _ _ => S.length + 1 - (intOf j).toNat)
          case atStart => exact ⟨0, rfl, Nat.zero_le _, rfl, fun l _ j h1 h2 => by omega, HI.out⟩
          case round =>
            clear HI
            obtain ⟨x, rfl, hxl, rfl, hno, hI⟩ := hrel
            have HI := Lib.hid hI
            have HNO := Lib.hid hno
            clear hI hno
            by_cases hxk : x < S.length
            · obtain ⟨l, hl1, hl2', hl3⟩ := lastOf_nat (len := S.length) (by omega) HBD.out
              have hxi : (x : Int) + 1 ≤ (S.length : Int) := by omega
              have HNOl := Lib.hid (HNO.out l hl1)
              have HL3 := Lib.hid (And.intro hl1 (And.intro hl2' hl3))
              rw [hl1]
              obtain ⟨m, hmd⟩ : ∃ m, (l + (x + 1)) % S.length = m := ⟨_, rfl⟩
              have hml : m < S.length := by rw [← hmd]; exact Nat.mod_lt _ (by omega)
              have hw : IntKind.i64.wrap ((l : Int) + ((x : Int) + 1)) = (l : Int) + ((x : Int) + 1) := by rw [IntKind.wrap_i64]; omega
              have hmod : Int.tmod ((l : Int) + ((x : Int) + 1)) (S.length : Int) = (m : Int) := by rw [Int.tmod_eq_emod_of_nonneg (by omega), ← hmd]; rfl
              have hw2 : IntKind.i64.wrap (m : Int) = (m : Int) := by rw [IntKind.wrap_i64]; omega
              have hSz : (S.length : Int) ≠ 0 := by omega
              have hmi : (m : Int) < (S.length : Int) := by omega
              have hm0 : (0 : Int) ≤ (m : Int) := by omega
              have HMD := Lib.hid hmd
              have hmx : S[m]? = some S[m] := List.getElem?_eq_getElem hml
              have hzm := hz _ (List.getElem_mem hml)
              obtain ⟨b3, off3, rfl, hlt3, x0, x1, x2⟩ := (HS.out.below HI.out.bel).at_ hml
              have HYES : Hid (hasB S[m].2.1 s = true → m ∈ L) := Lib.hid (fun h => (HMEM.out m).2 ⟨hml, _, hmx, h⟩)
              have HNON : Hid (hasB S[m].2.1 s = false → m ∉ L) := Lib.hid (fun h hh => by
                obtain ⟨_, y, hy, hy2⟩ := (HMEM.out m).1 hh
                rw [hmx] at hy
                injection hy with hy
                rw [← hy, h] at hy2
                cases hy2)
              obtain ⟨t0, t1, t2⟩ := HTC.out _ HI.out.bel
              have cw := fun w (hb : Below wr.heap.size wr w) => wants_c S[m] s w (x2.below hb) hzm
              unfold sbV sbC at cw
              clear hl1 hl3 hmd hmx x2 hzm
              generalize S[m] = xm at *
              go_wp2_with fail
              clear hmod hw hw2 hSz
              have hS := And.intro x0 (And.intro x1 (And.intro t0 (And.intro hlt3 t2)))
              go_region_held3 (fun w => w.cell? ⟨b3, off3 + m * 2, none⟩ = some (.int .i64 xm.1) ∧ w.cell? ⟨b3, off3 + m * 2 + 1, none⟩ = some (.slice xm.2.2.1 xm.2.1.length xm.2.2.2) ∧ w.cell? ⟨b, off + k * 2, none⟩ = some (.string s) ∧ b3 < w.heap.size ∧ b < w.heap.size) (first | exact sub3_later hS ((Below.refl _ _).drew) | exact sub3_later (by assumption) (by assumption)) (first | ((with_reducible refine (cw _ ((Below.refl _ _).drew)).mono ?_); rintro e w5 ⟨rfl, hb5⟩))
              all_goals
                have HI5 := Lib.hid (HI.out.later (((Below.refl _ _).drew).trans hb5))
                clear hb5 cw hS x0 x1 t0 t1 t2 hlt3 HI
                cases hh : hasB xm.2.1 s with
                | false =>
                  have hmn := HNON.out hh
                  have HNO2 : Hid (∀ l : Nat, lastOf S.length (stP L s D0 p).2 = (l : Int) → ∀ j, 1 ≤ j → j < x + 1 + 1 → (l + j) % S.length ∉ L) := Lib.hid (fun l' hl' j h1 h2 => by
                    by_cases e : j = x + 1
                    · subst e
                      have : l' = l := by have := HL3.out.1; rw [hl'] at this; omega
                      subst this
                      rw [HMD.out]
                      exact hmn
                    · exact HNO.out l' hl' j h1 (by omega))
                  clear hh hmn HYES HNON
                  go_wp2_with fail
                  go_roundw
                  case rel => exact ⟨x + 1, by go_num, hxk, rfl, fun l' hl' => HNO2.out l' (by rw [HL3.out.1]; exact hl'), HI5.out⟩
                  case measure => simp [intOf]; omega
                | true =>
                  have hmL := HYES.out hh
                  have hbh : behG L (stP L s D0 p).2 = m := by
                    rw [← HMD.out]
                    exact next_is HSO.out (fun t ht => ((HMEM.out t).1 ht).1) HL3.out.2.1 HL3.out.2.2 (by omega) (by omega) (by rw [HMD.out]; exact hmL) (fun j h1 h2 => HNOl.out j h1 h2)
                  have hSS := stP_some (s := s) (st := D0) (p := p) (show 0 < L.length from List.length_pos_of_mem hmL)
                  rw [hbh] at hSS
                  have hDl : ((stP L s D0 p).1 m).length ≤ 1000 := by
                    have h1 := stP_len (L := L) (s := s) (st := D0) p m
                    have h2 := HLN.out m
                    omega
                  have hlo : lastOf S.length (m : Int) = (m : Int) := by unfold lastOf; rw [if_neg (by omega)]
                  have hRl : R'.length = S.length := by have := congrArg List.length HI5.out.mem; simpa using this
                  obtain ⟨r, hge2⟩ : ∃ r, R'[m]? = some r := ⟨_, List.getElem?_eq_getElem (by omega)⟩
                  obtain ⟨hnR, g, rfl, hgl, hbg, p0, p1, p2⟩ := HI5.out.sh.at_ hge2
                  have hAP := RgS.app HI5.out hge2 s (p : Int) (.cells #[.string s, .int .i64 (p : Int)] 56)
                  rw [show updD (stP L s D0 p).1 m ((stP L s D0 p).1 m ++ [(s, (p : Int))]) = (stP L s D0 (p + 1)).1 by rw [hSS]] at hAP
                  have HS2 : Hid ((stP L s D0 (p + 1)).2 = (m : Int)) := Lib.hid (by rw [hSS])
                  have hBA : Below w5.heap.size w5 (w5.alloc (.cells #[.string s, .int .i64 (p : Int)] 56)) := (Below.refl _ _).alloc (Nat.le_refl _) _
                  have hrow := own_below (HI5.out.sh.parts m r hge2) hBA.drew
                  have hnw := news_at (Box.new w5.drew 56 #[.string s, .int .i64 (p : Int)])
                  have hbw := HI5.out.bel.size
                  have pa := (hBA.cell (p := ⟨g, m * 2 + 1, none⟩) hgl).trans p1
                  have hS0 := (HTC.out _ (HI5.out.bel.trans (((Below.refl w5.heap.size w5).drew).mono HI5.out.bel.size))).1
                  have hSa := (HTC.out _ (HI5.out.bel.trans (hBA.drew.mono HI5.out.bel.size))).1
                  have HAP := Lib.hid hAP
                  have HLO := Lib.hid hlo
                  have HB4 := Lib.hid (fun w4 (ho : Off (fun k => r.2.ownBlock = some k) w5 w4) => (HTC.out w4 (HI5.out.bel.trans (ho.below (B := W.heap.size) HI5.out.bel.size fun k hk => (own_blk (HI5.out.sh.parts m r hge2) hk).1))).1)
                  clear hh hmL hbh hSS hlo hRl hnR hgl hbg hAP hBA HI5 HYES HNON hge2
                  generalize (stP L s D0 p).1 = Dx at *
                  go_wp2_with fail
                  refine wp_region_held_drew (S := (fun w => w.cell? ⟨b, off + k * 2, none⟩ = some (.string s))) (by kernel_rfl) hS0 (fun hHeld => ?_)
                  refine takeW (i := 0) (v := ?v1) rfl (by kernel_rfl) (by kernel_rfl) (by kernel_rfl) (fun _ _ _ h => h) (by kernel_rfl) hHeld ?hy1 ?rest1
                  case hy1 => (intro w hSw; (try dsimp only at hSw); go_simp; (try with_reducible rfl))
                  try simp only [Act.put, List.setIfInBounds_toArray, List.set_cons_zero, List.set_cons_succ]
                  refine takeW (i := 1) (v := ?v2) rfl (by kernel_rfl) (by kernel_rfl) (by kernel_rfl) (fun _ _ _ h => h) (by kernel_rfl) hHeld ?hy2 ?rest2
                  case hy2 => (intro w hSw; (try dsimp only at hSw); go_simp; (try with_reducible rfl))
                  try simp only [Act.put, List.setIfInBounds_toArray, List.set_cons_zero, List.set_cons_succ]
                  refine takeW (i := 2) (v := ?v3) rfl (by kernel_rfl) (by kernel_rfl) (by kernel_rfl) (fun _ _ _ h => h) (by kernel_rfl) hHeld ?hy3 ?rest3
                  case hy3 => (intro w hSw; (try dsimp only at hSw); go_simp; (try with_reducible rfl))
                  try simp only [Act.put, List.setIfInBounds_toArray, List.set_cons_zero, List.set_cons_succ]
                  refine takeW (i := 3) (v := ?v4) rfl (by kernel_rfl) (by kernel_rfl) (by kernel_rfl) (fun _ _ _ h => h) (by kernel_rfl) hHeld ?hy4 ?rest4
                  case hy4 => (intro w hSw; (try dsimp only at hSw); go_simp; (try with_reducible rfl))
                  try simp only [Act.put, List.setIfInBounds_toArray, List.set_cons_zero, List.set_cons_succ]
                  refine takeW (i := 4) (v := ?v5) rfl (by kernel_rfl) (by kernel_rfl) (by kernel_rfl) (fun _ _ _ h => h) (by kernel_rfl) hHeld ?hy5 ?rest5
                  case hy5 => (intro w hSw; (try dsimp only at hSw); go_simp; (try with_reducible rfl))
                  try simp only [Act.put, List.setIfInBounds_toArray, List.set_cons_zero, List.set_cons_succ]
                  refine takeW (i := 5) (v := ?v6) rfl (by kernel_rfl) (by kernel_rfl) (by kernel_rfl) (fun _ _ _ h => h) (by kernel_rfl) hHeld ?hy6 ?rest6
                  case hy6 => (intro w hSw; (try dsimp only at hSw); go_simp; (try with_reducible rfl))
                  try simp only [Act.put, List.setIfInBounds_toArray, List.set_cons_zero, List.set_cons_succ]
                  refine takeW (i := 7) (v := ?v7) rfl (by kernel_rfl) (by kernel_rfl) (by kernel_rfl) (fun _ _ _ h => h) (by kernel_rfl) hHeld ?hy7 ?rest7
                  case hy7 => (intro w hSw; (try dsimp only at hSw); go_simp; (try with_reducible rfl))
                  try simp only [Act.put, List.setIfInBounds_toArray, List.set_cons_zero, List.set_cons_succ]
                  refine takeW (i := 8) (v := ?v8) rfl (by kernel_rfl) (by kernel_rfl) (by kernel_rfl) (fun _ _ _ h => h) (by kernel_rfl) hHeld ?hy8 ?rest8
                  case hy8 => (intro w hSw; (try dsimp only at hSw); go_simp; (try with_reducible rfl))
                  try simp only [Act.put, List.setIfInBounds_toArray, List.set_cons_zero, List.set_cons_succ]
                  refine takeW (i := 9) (v := ?v9) rfl (by kernel_rfl) (by kernel_rfl) (by kernel_rfl) (fun _ _ _ h => h) (by kernel_rfl) hHeld ?hy9 ?rest9
                  case hy9 => (intro w hSw; (try dsimp only at hSw); go_simp; (try with_reducible rfl))
                  try simp only [Act.put, List.setIfInBounds_toArray, List.set_cons_zero, List.set_cons_succ]
                  refine takeW (i := 10) (v := ?v10) rfl (by kernel_rfl) (by kernel_rfl) (by kernel_rfl) (fun _ _ _ h => h) (by kernel_rfl) hHeld ?hy10 ?rest10
                  case hy10 => (intro w hSw; (try dsimp only at hSw); go_simp; (try with_reducible rfl))
                  try simp only [Act.put, List.setIfInBounds_toArray, List.set_cons_zero, List.set_cons_succ]
                  refine takeW (i := 11) (v := ?v11) rfl (by kernel_rfl) (by kernel_rfl) (by kernel_rfl) (fun _ _ _ h => h) (by kernel_rfl) hHeld ?hy11 ?rest11
                  case hy11 => (intro w hSw; (try dsimp only at hSw); go_simp; (try with_reducible rfl))
                  try simp only [Act.put, List.setIfInBounds_toArray, List.set_cons_zero, List.set_cons_succ]
                  refine takeW (i := 12) (v := ?v12) rfl (by kernel_rfl) (by kernel_rfl) (by kernel_rfl) (fun _ _ _ h => h) (by kernel_rfl) hHeld ?hy12 ?rest12
                  case hy12 => (intro w hSw; (try dsimp only at hSw); go_simp; (try with_reducible rfl))
                  try simp only [Act.put, List.setIfInBounds_toArray, List.set_cons_zero, List.set_cons_succ]
                  refine takeW (i := 13) (v := ?v13) rfl (by kernel_rfl) (by kernel_rfl) (by kernel_rfl) (fun _ _ _ h => h) (by kernel_rfl) hHeld ?hy13 ?rest13
                  case hy13 => (intro w hSw; (try dsimp only at hSw); go_simp; (try with_reducible rfl))
                  try simp only [Act.put, List.setIfInBounds_toArray, List.set_cons_zero, List.set_cons_succ]
                  refine wpAnyH_ready (rs := [6, 14]) (by kernel_rfl) (by simp) ?_
                  refine consL rfl (by kernel_rfl) (fun K hK => ?bA14) (consL rfl (by kernel_rfl) (fun K hK => ?bB14) AllReadyH.nil)
                  case bA14 =>
                    go_simp
                    refine hK.out _ _ (hS0) (fun hHeld => ?_)
                    clear hK K
                    try simp only [Act.put, List.setIfInBounds_toArray, List.set_cons_zero, List.set_cons_succ]
                    refine wpAnyH_ready (rs := [14]) (by kernel_rfl) (by simp) ?_
                    refine consL rfl (by kernel_rfl) (fun K hK => ?_) AllReadyH.nil
                    go_simp
                    refine hK.out _ _ (hSa) (fun hHeld => ?_)
                    clear hK K
                    try simp only [Act.put, List.setIfInBounds_toArray, List.set_cons_zero, List.set_cons_succ]
                    refine wpAnyH_ready (rs := [15]) (by kernel_rfl) (by simp) ?_
                    refine consL rfl (by kernel_rfl) (fun K hK => ?_) AllReadyH.nil
                    (refine wp_append_lies (w := (w5.alloc (.cells #[.string s, .int .i64 (p : Int)] 56)).drew) (.tmp 67) (.tmp 75) 32 rfl W.heap.size 56 i0 (.agg #[.string ⟨#[]⟩, .int .i64 0]) 2 24 Try.underlying32 hi hz0 hz1 hz2 rfl (by decide) r.2 (Dx m).length (prtC (Dx m)) (by simp [Act.eval]) hrow ⟨w5.heap.size, 0, none⟩ 1 1 [.string s, .int .i64 (p : Int)] (by simp [Act.eval]) rfl hnw (by simp [Value.oneCell']) (by decide) (by unfold maxLen; omega) (by omega) (by simp; omega) (w5.heap.size + 1) (by simp) ?_; intro g2 cap2 w4 hown4 hgrow4 hg4 hlt4; obtain ⟨k1, k2, k3, k4, k5⟩ := HAP.out g2 cap2 w4 hown4 hgrow4 hg4; have hS4 := HB4.out _ k5; have hS5 := (HTC.out _ k3.bel).1; have HK3 := Lib.hid k3)
                    refine hK.out _ _ (hS4) (fun hHeld => ?_)
                    clear hK K
                    try simp only [Act.put, List.setIfInBounds_toArray, List.set_cons_zero, List.set_cons_succ]
                    refine takeW (i := 16) (v := ?v15) rfl (by kernel_rfl) (by kernel_rfl) (by kernel_rfl) (fun _ _ _ h => h) (by kernel_rfl) hHeld ?hy15 ?rest15
                    case hy15 => (intro w hSw; (try dsimp only at hSw); go_simp; (try with_reducible rfl))
                    try simp only [Act.put, List.setIfInBounds_toArray, List.set_cons_zero, List.set_cons_succ]
                    refine takeW (i := 17) (v := ?v16) rfl (by kernel_rfl) (by kernel_rfl) (by kernel_rfl) (fun _ _ _ h => h) (by kernel_rfl) hHeld ?hy16 ?rest16
                    case hy16 => (intro w hSw; (try dsimp only at hSw); go_simp; (try with_reducible rfl))
                    try simp only [Act.put, List.setIfInBounds_toArray, List.set_cons_zero, List.set_cons_succ]
                    refine wpAnyH_ready (rs := [18]) (by kernel_rfl) (by simp) ?_
                    refine consL rfl (by kernel_rfl) (fun K hK => ?_) AllReadyH.nil
                    go_simp
                    refine hK.out _ _ (hS5) (fun hHeld => ?_)
                    clear hK K
                    try simp only [Act.put, List.setIfInBounds_toArray, List.set_cons_zero, List.set_cons_succ]
                    refine wpAnyH_done (by kernel_rfl) ?_ _
                    go_wp2_with fail
                    go_roundw
                    case rel => exact ⟨p + 1, _, by go_num, hpk, by rw [HS2.out, HLO.out], .inr (by rw [HS2.out]; omega), HK3.out⟩
                    case measure => simp [intOf]; omega
                  case bB14 =>
                    go_simp
                    refine hK.out _ _ (hSa) (fun hHeld => ?_)
                    clear hK K
                    try simp only [Act.put, List.setIfInBounds_toArray, List.set_cons_zero, List.set_cons_succ]
                    refine wpAnyH_ready (rs := [6]) (by kernel_rfl) (by simp) ?_
                    refine consL rfl (by kernel_rfl) (fun K hK => ?_) AllReadyH.nil
                    go_simp
                    refine hK.out _ _ (hSa) (fun hHeld => ?_)
                    clear hK K
                    try simp only [Act.put, List.setIfInBounds_toArray, List.set_cons_zero, List.set_cons_succ]
                    refine wpAnyH_ready (rs := [15]) (by kernel_rfl) (by simp) ?_
                    refine consL rfl (by kernel_rfl) (fun K hK => ?_) AllReadyH.nil
                    (refine wp_append_lies (w := (w5.alloc (.cells #[.string s, .int .i64 (p : Int)] 56)).drew) (.tmp 67) (.tmp 75) 32 rfl W.heap.size 56 i0 (.agg #[.string ⟨#[]⟩, .int .i64 0]) 2 24 Try.underlying32 hi hz0 hz1 hz2 rfl (by decide) r.2 (Dx m).length (prtC (Dx m)) (by simp [Act.eval]) hrow ⟨w5.heap.size, 0, none⟩ 1 1 [.string s, .int .i64 (p : Int)] (by simp [Act.eval]) rfl hnw (by simp [Value.oneCell']) (by decide) (by unfold maxLen; omega) (by omega) (by simp; omega) (w5.heap.size + 1) (by simp) ?_; intro g2 cap2 w4 hown4 hgrow4 hg4 hlt4; obtain ⟨k1, k2, k3, k4, k5⟩ := HAP.out g2 cap2 w4 hown4 hgrow4 hg4; have hS4 := HB4.out _ k5; have hS5 := (HTC.out _ k3.bel).1; have HK3 := Lib.hid k3)
                    refine hK.out _ _ (hS4) (fun hHeld => ?_)
                    clear hK K
                    try simp only [Act.put, List.setIfInBounds_toArray, List.set_cons_zero, List.set_cons_succ]
                    refine takeW (i := 16) (v := ?v17) rfl (by kernel_rfl) (by kernel_rfl) (by kernel_rfl) (fun _ _ _ h => h) (by kernel_rfl) hHeld ?hy17 ?rest17
                    case hy17 => (intro w hSw; (try dsimp only at hSw); go_simp; (try with_reducible rfl))
                    try simp only [Act.put, List.setIfInBounds_toArray, List.set_cons_zero, List.set_cons_succ]
                    refine takeW (i := 17) (v := ?v18) rfl (by kernel_rfl) (by kernel_rfl) (by kernel_rfl) (fun _ _ _ h => h) (by kernel_rfl) hHeld ?hy18 ?rest18
                    case hy18 => (intro w hSw; (try dsimp only at hSw); go_simp; (try with_reducible rfl))
                    try simp only [Act.put, List.setIfInBounds_toArray, List.set_cons_zero, List.set_cons_succ]
                    refine wpAnyH_ready (rs := [18]) (by kernel_rfl) (by simp) ?_
                    refine consL rfl (by kernel_rfl) (fun K hK => ?_) AllReadyH.nil
                    go_simp
                    refine hK.out _ _ (hS5) (fun hHeld => ?_)
                    clear hK K
                    try simp only [Act.put, List.setIfInBounds_toArray, List.set_cons_zero, List.set_cons_succ]
                    refine wpAnyH_done (by kernel_rfl) ?_ _
                    go_wp2_with fail
                    go_roundw
                    case rel => exact ⟨p + 1, _, by go_num, hpk, by rw [HS2.out, HLO.out], .inr (by rw [HS2.out]; omega), HK3.out⟩
                    case measure => simp [intOf]; omega
            · have hxi : ¬ (x : Int) + 1 ≤ (S.length : Int) := by omega
              have hL0 : L.length = 0 := by
                by_cases hS0 : S.length = 0
                · cases L with
                  | nil => rfl
                  | cons t L => exact absurd ((HMEM.out t).1 (by simp)).1 (by omega)
                · obtain ⟨l, hl1, hl2', hl3⟩ := lastOf_nat (len := S.length) (by omega) HBD.out
                  exact some_is (fun t ht => ((HMEM.out t).1 ht).1) hl2' (fun j h1 h2 => HNO.out l hl1 j h1 (by omega))
              have HE : Hid (stP L s D0 (p + 1) = stP L s D0 p) := Lib.hid (by rw [stP_none hL0, stP_none hL0])
              go_wp2_with fail
              go_roundw
              case rel => exact ⟨p + 1, R', by go_num, hpk, by rw [HE.out], by rw [HE.out]; exact HBD.out, by rw [HE.out]; exact HI.out⟩
              case measure => simp [intOf]; omega
        · have hpp : p = n := by omega
          subst hpp
          rw [← HST.out] at HI HBD
          have hpi : ¬ (p : Int) < (p : Int) := by omega
          go_wp2_with fail
          go_roundw
          case rel => exact ⟨k + 1, R', by go_num, hk, by rw [HST.out], HBD.out, HI.out⟩
          case measure => simp [intOf]; omega
    · have hkk : k = T.length := by omega
      subst hkk
      have HQ : Hid (RgS W S (.slice B S.length e0) (roundD S T).1 R wr) := Lib.hid (by have := HP.out; rwa [List.take_length] at this)
      clear HP
      go_wp2_with fail
      go_ret2
      exact ⟨B, e0, R, rfl, HQ.out.sh, HQ.out.mem, HQ.out.bel⟩
end Go.Proofs.Ythbcklamhoekmaa
