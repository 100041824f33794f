/- assign: whether all is given, by a contract. No condition. -/
import Derived.Test.YtacfhjbgplhjbaaAsWm
namespace Go.Proofs.Ytacfhjbgplhjbaa
open Go.RowKit
set_option linter.unusedVariables false
theorem wt_le {S : List SX} {T : List TX} (hT : ∀ t ∈ T, t.2 ≤ 16) : ∀ i, i ≤ T.length → ((T.take i).map (wtT S)).sum ≤ 16 * i
  | 0, _ => by simp
  | i + 1, h => by
    have hx : T[i]? = some T[i] := List.getElem?_eq_getElem (by omega)
    rw [List.take_add_one, hx, Option.toList_some, List.map_append, List.sum_append]
    have h1 := wt_le (S := S) hT i (by omega)
    have h2 := hT _ (List.getElem_mem (by omega : i < T.length))
    have h3 : wtT S T[i] ≤ 16 := by unfold wtT; split <;> omega
    simp only [List.map_cons, List.map_nil, List.sum_cons, List.sum_nil]
    omega
theorem wt_succ {S : List SX} {T : List TX} {i : Nat} {t : TX} (h : T[i]? = some t) : ((T.take (i + 1)).map (wtT S)).sum = ((T.take i).map (wtT S)).sum + wtT S t := by
  rw [List.take_add_one, h, Option.toList_some, List.map_append, List.sum_append]
  simp
theorem sumTo_mono (f : Nat → Nat) {a : Nat} : ∀ {b : Nat}, a ≤ b → sumTo f a ≤ sumTo f b
  | 0, h => by rw [Nat.le_zero.1 h]; exact Nat.le_refl _
  | b + 1, h => by
    by_cases e : a = b + 1
    · subst e; exact Nat.le_refl _
    · rw [sumTo]
      have := sumTo_mono f (a := a) (b := b) (by omega)
      omega
theorem cnt_le (x : TX) (L : List TX) (j : Nat) : cntP x (L.take j) ≤ cntP x L := by
  unfold cntP
  exact List.Sublist.countP_le (List.take_sublist j L)
/-- Is a place among the first few? -/
def hasN (L : List Nat) (k : Nat) (m : Nat) : Bool := (L.take m).any fun i => decide (i = k)
theorem hasN_succ {L : List Nat} {k m i : Nat} (h : L[m]? = some i) : hasN L k (m + 1) = (hasN L k m || decide (i = k)) := by
  unfold hasN
  rw [List.take_add_one, h, Option.toList_some, List.any_append]
  simp
theorem hasN_all {L : List Nat} {k : Nat} (h : k ∈ L) : hasN L k L.length = true := by
  unfold hasN
  rw [List.take_length, List.any_eq_true]
  exact ⟨k, h, by simp⟩
theorem tx_eq (y : TX) (s : ByteArray) (p : Int) : decide (y = (s, p)) = ((y.1.toList == s.toList) && decide (y.2 = p)) := by
  rw [beq_str, Bool.eq_iff_iff, Bool.and_eq_true, decide_eq_true_eq, decide_eq_true_eq, decide_eq_true_eq]
  constructor
  · rintro rfl; exact ⟨rfl, rfl⟩
  · rintro ⟨h1, h2⟩; rw [← h1, ← h2]
/-- So many given. -/
def accN (n0 : Nat) (L : List Nat) (q : Nat) : Nat := n0 + (if L.length = 0 then 0 else q)
theorem accN_zero (n0 : Nat) (L : List Nat) : accN n0 L 0 = n0 := by unfold accN; split <;> rfl
theorem accN_le (n0 : Nat) (L : List Nat) (q : Nat) : accN n0 L q ≤ n0 + q := by unfold accN; split <;> omega
theorem accN_succ (n0 : Nat) (L : List Nat) (q : Nat) : accN n0 L (q + 1) = accN n0 L q + (if L.length = 0 then 0 else 1) := by unfold accN; split <;> omega
set_option maxHeartbeats 32000000 in
set_option maxRecDepth 100000 in
theorem whole_c (S : List SX) (A : Option Addr) (c : Nat) (T : List TX) (A2 : Option Addr) (c2 : Nat) (D : Nat → List TX) (B : Option Addr) (d : Nat) (W : World) (hS : SbIn W A S) (hT : TpIn W A2 T) (hI : ShIn W B (shL (S.map (·.1)) D)) (hz : ∀ x ∈ S, x.2.1.length ≤ 140737488351232) (hk : chkE S T = 0) (hD : Dealt S T D) :
    Calls Try.prog 16 #[.slice A S.length c, .slice A2 T.length c2, .slice B S.length d] W (Good W (.bool true)) := by
  obtain ⟨hmS, hmT⟩ := chk_ok hk
  obtain ⟨hl, hok, _⟩ := mayS_iff.1 hmS
  obtain ⟨hl2, hokT, hris⟩ := mayT_iff.1 hmT
  have hT16 := fun t ht => (okT_iff.1 (hokT t ht)).2
  have ct := fun s w (h : SbIn w A S) => rtakers_c S A c s w h (by omega) hz
  have HS := Lib.hid hS
  have HT := Lib.hid hT
  have HI := Lib.hid hI
  have HD := Lib.hid hD
  have HRI := Lib.hid hris
  have HWL := Lib.hid (fun i => wt_le (S := S) hT16 i)
  have HOK := Lib.hid hokT
  have HDL : Hid (∀ k, k < S.length → (D k).length ≤ 400) := Lib.hid (fun k hk => by
    have h1 := sumTo_mono (fun k => (D k).length) (show k + 1 ≤ S.length from hk)
    rw [hD.sum, sumTo] at h1
    have h2 := wt_le (S := S) hT16 T.length (Nat.le_refl _)
    rw [List.take_length] at h2
    omega)
  clear hS hT hI hD hris hmS hmT hk hok hz hokT
  go_enter Try.func16, Try.ntmps16
  go_wp2_with fail
  go_loopw [7, 8, 9, 10, 11, 12, 13, 14, 15] (fun n i _ _ _ _ _ _ _ wr => ∃ (k : Nat), i = .int .i64 k ∧ k ≤ T.length ∧ n = .int .i64 (((T.take k).map (wtT S)).sum : Nat) ∧ Below W.heap.size W wr) (fun _ i _ _ _ _ _ _ _ _ => T.length - (intOf i).toNat)
  case atStart => exact ⟨0, rfl, Nat.zero_le _, rfl, Below.refl _ _⟩
  case round =>
    obtain ⟨i, rfl, hil, rfl, hB⟩ := hrel
    have HB := Lib.hid hB
    clear hB
    by_cases hik : i < T.length
    · have hx : T[i]? = some T[i] := List.getElem?_eq_getElem hik
      obtain ⟨b, off, rfl, hlt, y00, y01⟩ := HT.out.at_ hik
      have hok := okT_iff.1 (HOK.out _ (List.getElem_mem hik))
      have HTC := Lib.hid (fun w (h : Below W.heap.size W w) => And.intro ((h.cell (p := ⟨b, off + i * 2, none⟩) hlt).trans y00) ((h.cell (p := ⟨b, off + i * 2 + 1, none⟩) hlt).trans y01))
      have HWS := Lib.hid (wt_succ (S := S) hx)
      have HC1 := Lib.hid (fun p (hp : p < T[i].2.toNat) => (HD.out.cnt (T[i].1, (p : Int))).trans (ct_one (S := S) HRI.out hx hp))
      have hki : (i : Int) < (T.length : Int) := by omega
      have hk0 : (0 : Int) ≤ (i : Int) := by omega
      have hwl := HWL.out i (by omega)
      have HWT : Hid (wtT S T[i] = if (takersG S T[i].1 S.length).length = 0 then 0 else T[i].2.toNat) := Lib.hid rfl
      clear hx y00 y01 hlt
      generalize T[i] = t at *
      obtain ⟨s, n'⟩ := t
      obtain ⟨n, rfl⟩ : ∃ n : Nat, n' = n := ⟨n'.toNat, by simp only at hok; omega⟩
      have hn2 : n ≤ 16 := by simp only at hok; omega
      simp only [Int.toNat_natCast] at HTC HC1 HWT
      obtain ⟨y0, y1⟩ := HTC.out _ HB.out
      have c5 := ct s wr (HS.out.below HB.out)
      have HMEM := Lib.hid (fun k x (h : x ∈ D k) => HD.out.mem k x h)
      generalize ((T.take i).map (wtT S)).sum = n0 at *
      go_wp2_with fail
      with_reducible refine c5.mono ?_
      rintro e w3 ⟨A3, c3, rfl, htk, hb3⟩
      have HB3 := Lib.hid (HB.out.trans (hb3.mono HB.out.size))
      have HTK := Lib.hid htk
      have hbw := HB.out.size
      have hTL := takersG_len S s S.length
      clear hb3 htk c5 y0 y1 HB ct hok
      have HME : Hid (∀ k x, x ∈ D k → x.1 = s → k ∈ takersG S s S.length) := Lib.hid (fun k x h e => by have := HMEM.out k x h; rwa [e] at this)
      generalize takersG S s S.length = L at *
      generalize wr.heap.size = h3 at *
      go_wp2_with fail
      go_loopw [7, 10, 11, 12, 13, 14, 15] (fun nn p _ _ _ _ _ wr => ∃ (q : Nat), p = .int .i64 q ∧ q ≤ n ∧ nn = .int .i64 (accN n0 L q : Nat) ∧ Below w3.heap.size w3 wr) (fun _ p _ _ _ _ _ _ => n - (intOf p).toNat)
      case atStart => exact ⟨0, rfl, Nat.zero_le _, by rw [accN_zero], Below.refl _ _⟩
      case round =>
        obtain ⟨p, rfl, hpl, rfl, hB4⟩ := hrel
        have HB4 := Lib.hid hB4
        clear hB4
        obtain ⟨y0, y1⟩ := HTC.out _ (HB3.out.trans (HB4.out.mono HB3.out.size))
        by_cases hpn : p < n
        · have hpi : (p : Int) < (n : Int) := by omega
          have HCX := Lib.hid (HC1.out p hpn)
          go_wp2_with fail
          clear y0 y1
          go_loopw [11, 12, 13, 14, 15] (fun gv k _ _ _ wr => ∃ (x : Nat), k = .int .i64 x ∧ x ≤ S.length ∧ gv = .int .i64 (sumTo (fun k => cntP (s, (p : Int)) (D k)) x : Nat) ∧ Below w3.heap.size w3 wr) (fun _ k _ _ _ _ => S.length - (intOf k).toNat)
          case atStart => exact ⟨0, rfl, Nat.zero_le _, rfl, HB4.out⟩
          case round =>
            clear HB4
            obtain ⟨k, rfl, hkl, rfl, hB4⟩ := hrel
            have HB4 := Lib.hid hB4
            clear hB4
            by_cases hkS : k < S.length
            · have hmx : (S.map (·.1))[k]? = some S[k].1 := by simp [hkS]
              obtain ⟨b2, off2, rfl, hlt2, P, cp, x0, x1, x2⟩ := HI.out.at_ (shL_at (D := D) hmx)
              simp only at x0 x1 x2
              have hkS' : (k : Int) < (S.length : Int) := by omega
              have hkk0 : (0 : Int) ≤ (k : Int) := by omega
              have HX1 := Lib.hid (fun w (h : Below W.heap.size W w) => (h.cell (p := ⟨b2, off2 + k * 2 + 1, none⟩) hlt2).trans x1)
              have HX2 := Lib.hid x2
              have HMK := Lib.hid (HME.out k)
              have hcb : sumTo (fun k => cntP (s, (p : Int)) (D k)) k + cntP (s, (p : Int)) (D k) ≤ 1 := by
                have h1 := sumTo_mono (fun k => cntP (s, (p : Int)) (D k)) (show k + 1 ≤ S.length from hkS)
                rw [HCX.out] at h1
                rw [sumTo] at h1
                refine Nat.le_trans h1 ?_
                split <;> omega
              have HSK : Hid (sumTo (fun k => cntP (s, (p : Int)) (D k)) (k + 1) = sumTo (fun k => cntP (s, (p : Int)) (D k)) k + cntP (s, (p : Int)) (D k)) := Lib.hid rfl
              have hDl := HDL.out k hkS
              have HCL := Lib.hid (fun j => cnt_le (s, (p : Int)) (D k) j)
              have HTKE := Lib.hid (fun j y (h : (D k)[j]? = some y) => cntP_take (x := (s, (p : Int))) h)
              clear x0 x1 x2 hlt2 hmx
              go_wp2_with fail
              go_loopw [11, 13, 14, 15] (fun gv j _ _ wr => ∃ (y : Nat), j = .int .i64 y ∧ y ≤ (D k).length ∧ gv = .int .i64 (sumTo (fun k => cntP (s, (p : Int)) (D k)) k + cntP (s, (p : Int)) ((D k).take y) : Nat) ∧ Below w3.heap.size w3 wr) (fun _ j _ _ _ => (D k).length - (intOf j).toNat)
              case atStart => exact ⟨0, rfl, Nat.zero_le _, rfl, HB4.out⟩
              case round =>
                clear HB4
                obtain ⟨j, rfl, hjl, rfl, hB4⟩ := hrel
                have HB4 := Lib.hid hB4
                clear hB4
                have HBW := Lib.hid (HB3.out.trans (HB4.out.mono HB3.out.size))
                have z1 := HX1.out _ HBW.out
                by_cases hjD : j < (D k).length
                · obtain ⟨pb, po, rfl, hlp, v00, v01⟩ := HX2.out.at_ hjD
                  have v0 := (HBW.out.cell (p := ⟨pb, po + j * 2, none⟩) hlp).trans v00
                  have v1 := (HBW.out.cell (p := ⟨pb, po + j * 2 + 1, none⟩) hlp).trans v01
                  have hyx : (D k)[j]? = some (D k)[j] := List.getElem?_eq_getElem hjD
                  have HY := Lib.hid (HTKE.out j _ hyx)
                  have HYM := Lib.hid (HMK.out _ (List.getElem_mem hjD))
                  have hgb : sumTo (fun k => cntP (s, (p : Int)) (D k)) k + cntP (s, (p : Int)) ((D k).take j) ≤ 1 := by have := HCL.out j; omega
                  have HGS : Hid (sumTo (fun k => cntP (s, (p : Int)) (D k)) k + cntP (s, (p : Int)) ((D k).take (j + 1)) = sumTo (fun k => cntP (s, (p : Int)) (D k)) k + cntP (s, (p : Int)) ((D k).take j) + (if (D k)[j] = (s, (p : Int)) then 1 else 0)) := Lib.hid (by rw [HY.out, Nat.add_assoc])
                  have hji : (j : Int) < ((D k).length : Int) := by omega
                  have hj0 : (0 : Int) ≤ (j : Int) := by omega
                  obtain ⟨y0, _⟩ := HTC.out _ HBW.out
                  clear hyx v00 v01 HY
                  generalize (D k)[j] = y at *
                  generalize hG : sumTo (fun k => cntP (s, (p : Int)) (D k)) k + cntP (s, (p : Int)) ((D k).take j) = gv at *
                  have HG := Lib.hid hG
                  clear hG
                  have hw : IntKind.i64.wrap ((gv : Int) + 1) = (gv : Int) + 1 := by rw [IntKind.wrap_i64]; omega
                  obtain ⟨ys, yi⟩ := y
                  simp only at v0 v1
                  by_cases e1 : ys = s
                  · by_cases e2 : yi = (p : Int)
                    · subst e1
                      subst e2
                      have HGT : Hid (sumTo (fun k => cntP (ys, (p : Int)) (D k)) k + cntP (ys, (p : Int)) ((D k).take (j + 1)) = gv + 1) := Lib.hid (by rw [HGS.out, if_pos rfl])
                      have HKL := Lib.hid (HYM.out rfl)
                      go_wp2_with fail
                      go_quiet (fail)
                      go_wp2_with fail
                      go_loopw [14, 15] (fun is m wr => ∃ (u : Nat), m = .int .i64 u ∧ u ≤ L.length ∧ is = .bool (hasN L k u) ∧ Below w3.heap.size w3 wr) (fun _ m _ => L.length - (intOf m).toNat)
                      case atStart => exact ⟨0, rfl, Nat.zero_le _, rfl, below_drewN HB4.out _⟩
                      case round =>
                        clear z1 v0 v1 y0 HB4 HBW
                        obtain ⟨u, rfl, hul, rfl, hB4⟩ := hrel
                        have HB4 := Lib.hid hB4
                        clear hB4
                        by_cases huL : u < L.length
                        · have hux : L[u]? = some L[u] := List.getElem?_eq_getElem huL
                          obtain ⟨gt, rfl, hgt, t0⟩ := ints_at (own_below HTK.out HB4.out) hux
                          have HHS := Lib.hid (hasN_succ (k := k) hux)
                          have hui : (u : Int) < (L.length : Int) := by omega
                          have hu0 : (0 : Int) ≤ (u : Int) := by omega
                          clear hux
                          generalize L[u] = iu at *
                          cases hh : hasN L k u with
                          | true =>
                            have HN2 : Hid (hasN L k (u + 1) = true) := Lib.hid (by rw [HHS.out, hh]; rfl)
                            clear hh
                            go_wp2_with fail
                            go_roundw
                            case rel => exact ⟨u + 1, by go_num, huL, by rw [HN2.out], HB4.out⟩
                            case measure => simp [intOf]; omega
                          | false =>
                            by_cases ek : iu = k
                            · have HN2 : Hid (hasN L k (u + 1) = true) := Lib.hid (by rw [HHS.out, hh, decide_eq_true ek]; rfl)
                              have eki : (iu : Int) = (k : Int) := by omega
                              clear hh
                              go_wp2_with fail
                              go_roundw
                              case rel => exact ⟨u + 1, by go_num, huL, by rw [HN2.out], HB4.out⟩
                              case measure => simp [intOf]; omega
                            · have HN2 : Hid (hasN L k (u + 1) = false) := Lib.hid (by rw [HHS.out, hh, decide_eq_false ek]; rfl)
                              have eki : ((iu : Int) == (k : Int)) = false := beq_eq_false_iff_ne.2 (by omega)
                              clear hh
                              go_wp2_with fail
                              go_roundw
                              case rel => exact ⟨u + 1, by go_num, huL, by rw [HN2.out], HB4.out⟩
                              case measure => simp [intOf]; omega
                        · have huu : u = L.length := by omega
                          subst huu
                          rw [hasN_all HKL.out]
                          have hui : ¬ (L.length : Int) < (L.length : Int) := by omega
                          go_wp2_with fail
                          go_roundw
                          case rel => exact ⟨j + 1, by go_num, hjD, by rw [HGT.out]; go_num, HB4.out⟩
                          case measure => simp [intOf]; omega
                    · have HGT : Hid (sumTo (fun k => cntP (s, (p : Int)) (D k)) k + cntP (s, (p : Int)) ((D k).take (j + 1)) = gv) := Lib.hid (by rw [HGS.out, if_neg (fun e => e2 (by injection e)), Nat.add_zero])
                      subst e1
                      go_wp2_with fail
                      go_quiet (fail)
                      go_wp2_with fail
                      go_roundw
                      case rel => exact ⟨j + 1, by go_num, hjD, by rw [HGT.out], below_drewN HB4.out _⟩
                      case measure => simp [intOf]; omega
                  · have HGT : Hid (sumTo (fun k => cntP (s, (p : Int)) (D k)) k + cntP (s, (p : Int)) ((D k).take (j + 1)) = gv) := Lib.hid (by rw [HGS.out, if_neg (fun e => e1 (by injection e)), Nat.add_zero])
                    have hq : (ys.toList == s.toList) = false := by rw [beq_str]; exact decide_eq_false e1
                    go_wp2_with fail
                    go_quiet (fail)
                    go_wp2_with fail
                    go_roundw
                    case rel => exact ⟨j + 1, by go_num, hjD, by rw [HGT.out], below_drewN HB4.out _⟩
                    case measure => simp [intOf]; omega
                · have hjj : j = (D k).length := by omega
                  subst hjj
                  have hji : ¬ ((D k).length : Int) < ((D k).length : Int) := by omega
                  have HE : Hid (sumTo (fun k => cntP (s, (p : Int)) (D k)) k + cntP (s, (p : Int)) ((D k).take (D k).length) = sumTo (fun k => cntP (s, (p : Int)) (D k)) (k + 1)) := Lib.hid (by rw [List.take_length, HSK.out])
                  go_wp2_with fail
                  go_roundw
                  case rel => exact ⟨k + 1, by go_num, hkS, by rw [HE.out], HB4.out⟩
                  case measure => simp [intOf]; omega
            · have hkk : k = S.length := by omega
              subst hkk
              have hki' : ¬ (S.length : Int) < (S.length : Int) := by omega
              have hac := accN_le n0 L p
              have HAS := Lib.hid (accN_succ n0 L p)
              have hnb : n0 ≤ 320 := by omega
              rw [HCX.out]
              generalize accN n0 L p = an at *
              by_cases hL0 : L.length = 0
              · rw [if_pos hL0]
                have HA2 : Hid (accN n0 L (p + 1) = an) := Lib.hid (by rw [HAS.out, if_pos hL0]; rfl)
                have hw : IntKind.i64.wrap (an : Int) = (an : Int) := by rw [IntKind.wrap_i64]; omega
                have hLi : ¬ (0 : Int) < (L.length : Int) := by omega
                have hLd : decide ((0 : Int) < (L.length : Int)) = false := decide_eq_false hLi
                go_wp2_with fail
                go_roundw
                case rel => exact ⟨p + 1, by go_num, hpn, by rw [HA2.out], HB4.out⟩
                case measure => simp [intOf]; omega
              · rw [if_neg hL0]
                have HA2 : Hid (accN n0 L (p + 1) = an + 1) := Lib.hid (by rw [HAS.out, if_neg hL0])
                have hw : IntKind.i64.wrap ((an : Int) + 1) = (an : Int) + 1 := by rw [IntKind.wrap_i64]; omega
                have hLi : (0 : Int) < (L.length : Int) := by omega
                go_wp2_with fail
                go_roundw
                case rel => exact ⟨p + 1, by go_num, hpn, by rw [HA2.out]; go_num, HB4.out⟩
                case measure => simp [intOf]; omega
        · have hpp : p = n := by omega
          subst hpp
          have hpi : ¬ (p : Int) < (p : Int) := by omega
          have HE : Hid (accN n0 L p = ((T.take (i + 1)).map (wtT S)).sum) := Lib.hid (by rw [HWS.out, HWT.out]; rfl)
          have HBW := Lib.hid (HB3.out.trans (HB4.out.mono HB3.out.size))
          go_wp2_with fail
          go_roundw
          case rel => exact ⟨i + 1, by go_num, hik, by rw [HE.out], HBW.out⟩
          case measure => simp [intOf]; omega
    · have hii : i = T.length := by omega
      subst hii
      have hTb := HWL.out T.length (Nat.le_refl _)
      rw [List.take_length] at hTb ⊢
      have HSM := Lib.hid HD.out.sum
      have hii' : ¬ (T.length : Int) < (T.length : Int) := by omega
      have hsb : ∀ x, x ≤ S.length → sumTo (fun k => (D k).length) x ≤ 400 := fun x hx => by
        have := sumTo_mono (fun k => (D k).length) hx
        rw [HD.out.sum] at this
        omega
      generalize (T.map (wtT S)).sum = tot at *
      go_wp2_with fail
      go_loopw [16, 17] (fun al k wr => ∃ (x : Nat), k = .int .i64 x ∧ x ≤ S.length ∧ al = .int .i64 (sumTo (fun k => (D k).length) x : Nat) ∧ Below W.heap.size W wr) (fun _ k _ => S.length - (intOf k).toNat)
      case atStart => exact ⟨0, rfl, Nat.zero_le _, rfl, HB.out⟩
      case round =>
        clear HB
        obtain ⟨k, rfl, hkl, rfl, hB⟩ := hrel
        have HB := Lib.hid hB
        clear hB
        by_cases hkS : k < S.length
        · have hmx : (S.map (·.1))[k]? = some S[k].1 := by simp [hkS]
          obtain ⟨b2, off2, rfl, hlt2, P, cp, x00, x01, _⟩ := HI.out.at_ (shL_at (D := D) hmx)
          obtain ⟨b3, off3, rfl, hlt3, q0, _, _⟩ := (HS.out.below HB.out).at_ hkS
          simp only at x00 x01
          have x0 := (HB.out.cell (p := ⟨b2, off2 + k * 2, none⟩) hlt2).trans x00
          have x1 := (HB.out.cell (p := ⟨b2, off2 + k * 2 + 1, none⟩) hlt2).trans x01
          have hki : (k : Int) < (S.length : Int) := by omega
          have hk0 : (0 : Int) ≤ (k : Int) := by omega
          have hb1 := hsb (k + 1) hkS
          have HSK : Hid (sumTo (fun k => (D k).length) (k + 1) = sumTo (fun k => (D k).length) k + (D k).length) := Lib.hid rfl
          rw [HSK.out] at hb1
          clear x00 x01 hmx
          generalize sumTo (fun k => (D k).length) k = sk at *
          generalize S[k].1 = mk at *
          have hw : IntKind.i64.wrap ((sk : Int) + ((D k).length : Int)) = (sk : Int) + ((D k).length : Int) := by rw [IntKind.wrap_i64]; omega
          go_wp2_with fail
          go_quiet (fail)
          go_wp2_with fail
          go_roundw
          case rel => exact ⟨k + 1, by go_num, hkS, by rw [HSK.out]; go_num, below_drewN HB.out _⟩
          case measure => simp [intOf]; omega
        · have hkk : k = S.length := by omega
          subst hkk
          have hki : ¬ (S.length : Int) < (S.length : Int) := by omega
          rw [HSM.out]
          go_wp2_with fail
          go_ret
          exact ⟨rfl, HB.out⟩
end Go.Proofs.Ytacfhjbgplhjbaa
