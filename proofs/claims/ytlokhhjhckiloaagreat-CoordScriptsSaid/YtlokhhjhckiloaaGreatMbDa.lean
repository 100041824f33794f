/- member: deal, by a contract. No condition but that numbers are small. -/
import Derived.Test.YtlokhhjhckiloaaGreatMbSb
import Derived.BigRegion
namespace Go.Proofs.YtlokhhjhckiloaaGreat
open Go.RowKit
set_option linter.unusedVariables false
theorem infoSub : (Tryz.prog.info? 142).map (fun i => (i.zero, i.size, i.bytes)) = some (some (.agg #[.int .i64 0, .slice none 0 0]), 2, 32) := by kernel_rfl
/-- A member that was dealt its parts, when the first k have theirs. -/
def dpX (D : Nat → List TX) (Rs : List (Int × Value)) (k j : Nat) (x : MV) : MV := if j < k then ⟨{ x.d with P := D j }, x.tv, ((Rs[j]?).map (·.2)).getD x.pv⟩ else x
def dpR (D : Nat → List TX) (Rs : List (Int × Value)) (R : List MV) (k : Nat) : List MV := R.mapIdx fun j x => dpX D Rs k j x
section
variable {D : Nat → List TX} {Rs : List (Int × Value)} {R : List MV} {k : Nat}
theorem dpR_len : (dpR D Rs R k).length = R.length := by simp [dpR]
theorem dpR_zero : dpR D Rs R 0 = R := by
  unfold dpR
  apply List.ext_getElem?
  intro j
  rw [List.getElem?_mapIdx]
  cases R[j]? <;> rfl
theorem dpR_at {x : MV} (h : R[k]? = some x) : (dpR D Rs R k)[k]? = some x := by
  unfold dpR
  rw [List.getElem?_mapIdx, h]
  simp [dpX]
theorem dpR_step {x : MV} (h : R[k]? = some x) : (dpR D Rs R k).set k (dpX D Rs (k + 1) k x) = dpR D Rs R (k + 1) := by
  have hl := (List.getElem?_eq_some_iff.1 h).1
  apply List.ext_getElem?
  intro j
  by_cases e : j = k
  · subst e
    rw [List.getElem?_set_self (by rw [dpR_len]; exact hl)]
    unfold dpR
    rw [List.getElem?_mapIdx, h]
    rfl
  · rw [List.getElem?_set_ne (fun e' => e e'.symm)]
    unfold dpR
    rw [List.getElem?_mapIdx, List.getElem?_mapIdx]
    cases R[j]? with
    | none => rfl
    | some y =>
      simp only [Option.map_some, dpX]
      by_cases hj : j < k
      · rw [if_pos hj, if_pos (by omega)]
      · rw [if_neg hj, if_neg (by omega)]
theorem dpR_abs {L : List MD} (h : R.map MV.d = L) : (dpR D Rs R R.length).map MV.d = L.mapIdx fun j x => { x with P := D j } := by
  subst h
  apply List.ext_getElem?
  intro j
  unfold dpR
  rw [List.getElem?_map, List.getElem?_mapIdx, List.getElem?_mapIdx, List.getElem?_map]
  cases hj : R[j]? with
  | none => rfl
  | some y =>
    have hl := (List.getElem?_eq_some_iff.1 hj).1
    simp [dpX, hl]
end
/-- A call on a group that leaves its members' row where it is. -/
def WrK (B p : Nat) (v : Value) (n : Nat) (W : World) (G' : GD) (res : Value) (e : Ending) (w' : World) : Prop := e = .returned res ∧ ∃ R', R'.length = n ∧ GrIs w' B p v R' G' ∧ Off (GrS p v) W w'
/-- Dealing under way. -/
structure DaS (W : World) (B p : Nat) (v : Value) (R : List MV) (G : GD) (b : Nat) (vs : Value) (D : Nat → List TX) (Rs : List (Int × Value)) (k : Nat) (w : World) : Prop where
  le : k ≤ R.length
  is : GrIs w B p v (dpR D Rs R k) { G with L := (dpR D Rs R k).map MV.d }
  sh : ShIs b w vs Rs D
  off : Off (GrS p v) W w
theorem DaS.later {W : World} {B p b k : Nat} {v vs : Value} {R : List MV} {G : GD} {D : Nat → List TX} {Rs : List (Int × Value)} {w w' : World} (h : DaS W B p v R G b vs D Rs k w) (hb : Below w.heap.size w w') : DaS W B p v R G b vs D Rs k w' := ⟨h.le, h.is.later hb, h.sh.later hb, h.off.later hb⟩
theorem DaS.drew9 {W : World} {B p b k : Nat} {v vs : Value} {R : List MV} {G : GD} {D : Nat → List TX} {Rs : List (Int × Value)} {w : World} (h : DaS W B p v R G b vs D Rs k w) : DaS W B p v R G b vs D Rs k w.drew := h.later ((Below.refl _ _).drew)
theorem DaS.step {W : World} {B p g c b k : Nat} {vs : Value} {R : List MV} {G : GD} {D : Nat → List TX} {Rs : List (Int × Value)} {w : World} {x : MV} {r : Int × Value} (h : DaS W B p (.slice (some ⟨g, 0, none⟩) R.length c) R G b vs D Rs k w) (hx : R[k]? = some x) (hr : Rs[k]? = some r) (hB : B ≤ b) (hg : g < b) :
    DaS W B p (.slice (some ⟨g, 0, none⟩) R.length c) R G b vs D Rs (k + 1) (w.setCell ⟨g, k * 5 + 4, none⟩ r.2) := by
  have hl := (List.getElem?_eq_some_iff.1 hx).1
  have hpk := own_base2 (h.sh.parts k r hr) hB
  obtain ⟨h1, o1⟩ := h.is.field dpR_len (dpR_at hx) (y := dpX D Rs (k + 1) k x) 4 r.2 (by decide) (by unfold dpX mvC; rw [if_pos (by omega), hr]; rfl) (.inl (by unfold dpX; rw [if_pos (by omega)]; exact ⟨rfl, rfl⟩)) (.inr (by unfold dpX; rw [if_pos (by omega), hr]; exact hpk))
  rw [dpR_step hx] at h1
  refine ⟨by omega, h1.abs2 rfl, h.sh.off (Off.one w ⟨g, k * 5 + 4, none⟩ r.2) (fun i e => .inl (by rw [show i = g from e]; exact hg)), h.off.trans o1 (fun _ _ e => e)⟩
set_option maxHeartbeats 8000000 in
set_option maxRecDepth 100000 in
theorem deal_c (B p : Nat) (v : Value) (R : List MV) (G : GD) (T : List TX) (A2 : Option Addr) (c2 : Nat) (round : Bool) (W : World) (h : GrIs W B p v R G) (hl : G.L.length ≤ 20) (hBW : B ≤ W.heap.size) (hTL : ∀ x ∈ G.L, x.T.length ≤ 100000)
    (hT : TpIn W A2 T) (hTl : T.length ≤ 140737488351232) (hTz : ∀ t ∈ T, t.1.size ≤ 281474976710656) :
    Calls Tryz.prog 75 #[.pointer (some ⟨p, 0, none⟩), .slice A2 T.length c2, .bool round] W (WrK B p v R.length W (dealD T round G) (.int .i64 (dealE G.L T))) := by
  have hlen := h.len
  have hlR : R.length ≤ 20 := by omega
  obtain ⟨b0, b1, b2, b3, b4, b5, b6, bl, _⟩ := gr7 h.box
  obtain ⟨A, c, hv⟩ := own_slice h.row
  subst hv
  have HI := Lib.hid h
  have HT := Lib.hid hT
  have hSl : (subsV R).length ≤ 140737488351232 := by rw [subsV_len]; omega
  have hSz : ∀ x ∈ subsV R, x.2.1.length ≤ 140737488351232 := fun x hx => by
    unfold subsV at hx
    obtain ⟨y, hy, rfl⟩ := List.mem_map.1 hx
    have := hTL y.d (by rw [← h.abs]; exact List.mem_map_of_mem hy)
    show y.d.T.length ≤ _
    omega
  have HST : Hid (stripS (subsV R) = subsD G.L) := Lib.hid (subs_strip h.abs)
  have HR0 := Lib.hid (RowS.start W 142 2)
  obtain ⟨i0, hi, hz0, hz1, hz2⟩ := info_parts infoSub
  have hchk : chkE (subsV R) T = dealE G.L T := by unfold dealE; rw [← HST.out, strip_chk]
  have crg := fun w A1 c1 (hs : SbIn w A1 (subsV R)) (hb : Below W.heap.size W w) (hk : chkE (subsV R) T = 0) => range_c (subsV R) A1 c1 T A2 c2 w hs (HT.out.below hb) hSz hTz hk
  have crd := fun w A1 c1 (hs : SbIn w A1 (subsV R)) (hb : Below W.heap.size W w) (hk : chkE (subsV R) T = 0) => round_c (subsV R) A1 c1 T A2 c2 w hs (HT.out.below hb) hSz hTz hk
  have brg := fun w A1 c1 (hs : SbIn w A1 (subsV R)) (hb : Below W.heap.size W w) (hk : chkE (subsV R) T = 1) => range_bad (subsV R) A1 c1 T A2 c2 w hs (HT.out.below hb) hSl hTl hSz hk
  have brd := fun w A1 c1 (hs : SbIn w A1 (subsV R)) (hb : Below W.heap.size W w) (hk : chkE (subsV R) T = 1) => round_bad (subsV R) A1 c1 T A2 c2 w hs (HT.out.below hb) hSl hTl hSz hk
  unfold GotSh at crg crd
  rw [hchk] at crg crd brg brd
  simp only [subsV_len] at crg crd brg brd
  have HMR : Hid ((subsV R).map (·.1) = R.map fun x => x.d.n) := Lib.hid (by unfold subsV; rw [List.map_map]; rfl)
  have hDr : rangeD (subsV R) T = rangeD (subsD G.L) T := by rw [← HST.out, strip_range]
  have hDo : roundD (subsV R) T = roundD (subsD G.L) T := by rw [← HST.out, strip_round]
  rw [hDr] at crg
  rw [hDo] at crd
  have hcs := chk_cases (subsV R) T
  rw [hchk] at hcs
  unfold dealD
  clear h hT hSz hSl hTz hTL hchk hDr hDo hlen
  rcases hcs with hE | hE
  · rw [hE, if_pos rfl]
    cases round with
    | true =>
      go_enter Tryz.func75, Tryz.ntmps75
      go_wp2_with fail
      go_loopw [7, 9, 21] (fun a _ j wr => ∃ (k : Nat) (B1 : Option Addr) (e : Nat), j = .int .i64 k ∧ k ≤ R.length ∧ a = .slice B1 k e ∧ RowS W 142 2 (.slice B1 k e) k (subC (R.take k)) wr) (fun _ _ j _ => R.length - (intOf j).toNat)
      case atStart => exact ⟨0, none, 0, rfl, Nat.zero_le _, rfl, HR0.out⟩
      case round =>
        obtain ⟨k, B1, e0, rfl, hkl, rfl, hP⟩ := hrel
        have HP := Lib.hid hP
        clear hP HR0 b0 b1 b2 b3 b4 b5 b6 bl
        by_cases hk : k < R.length
        · obtain ⟨x, hx⟩ : ∃ x, R[k]? = some x := ⟨_, List.getElem?_eq_getElem hk⟩
          obtain ⟨g, c', e, hgl, _, hgp, q0, q1, q2, q3, q4, _⟩ := (HI.out.later HP.out.bel).at_ hx
          injection e with e _ ec
          subst e
          have hok := HI.out.all x (List.mem_of_getElem? hx)
          obtain ⟨tA, tc, et⟩ := own_slice hok.tr
          obtain ⟨pA, pc, ep⟩ := own_slice hok.pr
          have HY := Lib.hid (subC_succ hx)
          have hki : (k : Int) < (R.length : Int) := by omega
          obtain ⟨⟨n, Tx, u, jj, P⟩, tv, pv⟩ := x
          dsimp only at *
          subst et; subst ep
          have HP3 := Lib.hid ((HP.out.later ((Below.refl wr.heap.size wr).alloc (Nat.le_refl _) (.cells #[.int .i64 n, .slice tA Tx.length tc, .int .i64 u, .bool jj, .slice pA P.length pc] 95))).later ((Below.refl _ _).alloc (Nat.le_refl _) (.cells #[.int .i64 n, .slice tA Tx.length tc] 142)))
          have hrow := HP3.out.row
          have hnews := news_at (Box.new (wr.alloc (.cells #[.int .i64 n, .slice tA Tx.length tc, .int .i64 u, .bool jj, .slice pA P.length pc] 95)) 142 #[.int .i64 n, .slice tA Tx.length tc])
          rw [show (wr.alloc (.cells #[.int .i64 n, .slice tA Tx.length tc, .int .i64 u, .bool jj, .slice pA P.length pc] 95)).heap.size = wr.heap.size + 1 by simp] at hnews
          have hsz2 := HP3.out.bel.size
          clear hok hx ec crg crd brg brd HMR HST
          generalize hi5 : k * 5 = i5 at *
          go_wp2_with (at_builtin; refine wpList_append_own_at _ rfl _ _ 140 rfl W.heap.size 142 i0 (.agg #[.int .i64 0, .slice none 0 0]) 2 32 Tryz.underlying140 hi hz0 hz1 hz2 rfl (by decide) (.slice B1 k e0) k (subC (R.take k)) rfl hrow ⟨wr.heap.size + 1, 0, none⟩ 1 1 [.int .i64 n, .slice tA Tx.length tc] rfl rfl hnews (by simp [Value.oneCell']) (by unfold maxLen; omega) (by omega) hsz2 ?_)
          intro v' w5 hown' hgrow _ _
          obtain ⟨g', cap', rfl⟩ := own_slice hown'
          have HP7 := Lib.hid (HP3.out.grow hown' hgrow)
          clear hown' hgrow hrow hnews q0 q1 q2 q3 q4
          go_wp2
          go_roundw
          case rel =>
            refine ⟨k + 1, g', cap', by go_num, hk, rfl, ?_⟩
            rw [HY.out]; exact HP7.out
          case measure => simp [intOf]; omega
        · have hkk : k = R.length := by omega
          subst hkk
          have hsin := subs_in (by have := HP.out.row; rw [List.take_length] at this; exact this) rfl (fun x hx => (HI.out.all x hx).later HP.out.bel)
          have HBW := Lib.hid HP.out.bel
          have cx := crd _ _ e0 hsin HP.out.bel hE
          clear crg crd brg brd hsin HP
          go_wp2_with fail
          with_reducible refine cx.mono ?_
          rintro e w2 ⟨As, cs, Rs, rfl, hsh, hmr, hb2⟩
          have HB2 := Lib.hid (HBW.out.trans (hb2.mono HBW.out.size))
          have hRs : Rs.length = R.length := by have := congrArg List.length hmr; simpa [subsV_len] using this
          have HRs := Lib.hid hRs
          have HSB : Hid (W.heap.size ≤ wr.heap.size) := Lib.hid HBW.out.size
          have h2 := HI.out.later HB2.out
          have HST2 : Hid (DaS W B p (.slice A R.length c) R G wr.heap.size (.slice As R.length cs) ((roundD (subsD G.L) T).1) Rs 0 w2) := Lib.hid ⟨Nat.zero_le _, by rw [dpR_zero]; exact h2.abs' rfl, hsh, Off.of_below _ HB2.out⟩
          clear hb2 cx hsh hmr hRs h2 HBW
          obtain ⟨bz, hbz⟩ : ∃ bz, wr.heap.size = bz := ⟨_, rfl⟩
          rw [hbz] at HSB HST2
          clear hbz
          go_wp2_with fail
          go_loopw [13, 14, 47] (fun _ _ j wx => ∃ k : Nat, j = .int .i64 k ∧ DaS W B p (.slice A R.length c) R G bz (.slice As R.length cs) ((roundD (subsD G.L) T).1) Rs k wx) (fun _ _ j _ => R.length - (intOf j).toNat)
          case atStart => exact ⟨0, rfl, HST2.out⟩
          case round =>
            obtain ⟨k, rfl, hD⟩ := hrel
            have hle := hD.le
            have HD := Lib.hid hD
            clear HST2
            obtain ⟨b0, b1, b2, b3, b4, b5, b6, bl, f0, f1, f2, f3, f4⟩ := gr7 hD.is.box
            by_cases hk : k < R.length
            · obtain ⟨x, hx⟩ : ∃ x, R[k]? = some x := ⟨_, List.getElem?_eq_getElem hk⟩
              obtain ⟨r, hr⟩ : ∃ r, Rs[k]? = some r := ⟨_, List.getElem?_eq_getElem (by rw [HRs.out]; exact hk)⟩
              obtain ⟨g, c', e, hgl, _, hgp, q0, q1, q2, q3, q4, hf⟩ := hD.is.at_ (dpR_at hx)
              injection e with e en ec
              subst e
              clear en ec
              have hf4 := hf (k * 5 + 4)
              obtain ⟨-, g3, eA, hg3, hb3, s0, s1, -⟩ := hD.sh.at_ hr
              subst eA
              obtain ⟨pA, pc, ep⟩ := own_slice (hD.sh.parts k r hr)
              have HBg : Hid (g < bz) := Lib.hid (by
                obtain ⟨g0, c0, e0', hg0, _⟩ := HI.out.at_ hx
                have hgg : g = g0 := by simpa [Value.ownBlock] using congrArg Value.ownBlock e0'
                rw [← hgg] at hg0
                exact Nat.lt_of_lt_of_le hg0 HSB.out)
              have HBB : Hid (B ≤ bz) := Lib.hid (Nat.le_trans hBW HSB.out)
              obtain ⟨rn, rv⟩ := r
              dsimp only at ep s0 s1
              subst ep
              have HST3 := Lib.hid ((hD.step hx hr HBB.out HBg.out).later ((Below.refl _ _).alloc (Nat.le_refl _) (.cells #[.int .i64 rn, .slice pA (((roundD (subsD G.L) T).1) k).length pc] 147)))
              have hki : (k : Int) < (R.length : Int) := by omega
              dsimp only at HST3
              clear hD hx hr hf HI HBg HBB HSB HRs HB2 HMR HST hle
              generalize (((roundD (subsD G.L) T).1) k).length = pn at *
              generalize hi5 : k * 5 = i5 at *
              go_wp2_with fail
              go_region
              all_goals go_wp2_with fail
              all_goals go_roundw
              case rel => exact ⟨k + 1, by go_num, HST3.out.drew9⟩
              case measure => simp [intOf]; omega
            · have hkk : k = R.length := by omega
              subst hkk
              have HAB : Hid ((dpR ((roundD (subsD G.L) T).1) Rs R R.length).map MV.d = G.L.mapIdx fun j x => { x with P := ((roundD (subsD G.L) T).1) j }) := Lib.hid (dpR_abs HI.out.abs)
              have o3 := (Off.one wr ⟨p, 0, none⟩ (.int .i64 3)).set (p := ⟨p, 3, none⟩) (.inl (show p = p from rfl)) (.int .i64 0)
              have h3 := hD.is.put (G' := { G with ph := 3, un := 0, L := (dpR ((roundD (subsD G.L) T).1) Rs R R.length).map MV.d }) o3 ((hD.is.box.set 0 (.int .i64 3)).set 3 (.int .i64 0)) rfl
              have H3 := Lib.hid h3
              have O3 := Lib.hid (hD.off.trans o3 (fun _ _ e => .inl e))
              clear hD h3 o3 HD
              go_wp2_with fail
              go_ret
              exact ⟨rfl, _, dpR_len, H3.out.abs' (by rw [HAB.out]), O3.out⟩
    | false =>
      go_enter Tryz.func75, Tryz.ntmps75
      go_wp2_with fail
      go_loopw [7, 9, 21] (fun a _ j wr => ∃ (k : Nat) (B1 : Option Addr) (e : Nat), j = .int .i64 k ∧ k ≤ R.length ∧ a = .slice B1 k e ∧ RowS W 142 2 (.slice B1 k e) k (subC (R.take k)) wr) (fun _ _ j _ => R.length - (intOf j).toNat)
      case atStart => exact ⟨0, none, 0, rfl, Nat.zero_le _, rfl, HR0.out⟩
      case round =>
        obtain ⟨k, B1, e0, rfl, hkl, rfl, hP⟩ := hrel
        have HP := Lib.hid hP
        clear hP HR0 b0 b1 b2 b3 b4 b5 b6 bl
        by_cases hk : k < R.length
        · obtain ⟨x, hx⟩ : ∃ x, R[k]? = some x := ⟨_, List.getElem?_eq_getElem hk⟩
          obtain ⟨g, c', e, hgl, _, hgp, q0, q1, q2, q3, q4, _⟩ := (HI.out.later HP.out.bel).at_ hx
          injection e with e _ ec
          subst e
          have hok := HI.out.all x (List.mem_of_getElem? hx)
          obtain ⟨tA, tc, et⟩ := own_slice hok.tr
          obtain ⟨pA, pc, ep⟩ := own_slice hok.pr
          have HY := Lib.hid (subC_succ hx)
          have hki : (k : Int) < (R.length : Int) := by omega
          obtain ⟨⟨n, Tx, u, jj, P⟩, tv, pv⟩ := x
          dsimp only at *
          subst et; subst ep
          have HP3 := Lib.hid ((HP.out.later ((Below.refl wr.heap.size wr).alloc (Nat.le_refl _) (.cells #[.int .i64 n, .slice tA Tx.length tc, .int .i64 u, .bool jj, .slice pA P.length pc] 95))).later ((Below.refl _ _).alloc (Nat.le_refl _) (.cells #[.int .i64 n, .slice tA Tx.length tc] 142)))
          have hrow := HP3.out.row
          have hnews := news_at (Box.new (wr.alloc (.cells #[.int .i64 n, .slice tA Tx.length tc, .int .i64 u, .bool jj, .slice pA P.length pc] 95)) 142 #[.int .i64 n, .slice tA Tx.length tc])
          rw [show (wr.alloc (.cells #[.int .i64 n, .slice tA Tx.length tc, .int .i64 u, .bool jj, .slice pA P.length pc] 95)).heap.size = wr.heap.size + 1 by simp] at hnews
          have hsz2 := HP3.out.bel.size
          clear hok hx ec crg crd brg brd HMR HST
          generalize hi5 : k * 5 = i5 at *
          go_wp2_with (at_builtin; refine wpList_append_own_at _ rfl _ _ 140 rfl W.heap.size 142 i0 (.agg #[.int .i64 0, .slice none 0 0]) 2 32 Tryz.underlying140 hi hz0 hz1 hz2 rfl (by decide) (.slice B1 k e0) k (subC (R.take k)) rfl hrow ⟨wr.heap.size + 1, 0, none⟩ 1 1 [.int .i64 n, .slice tA Tx.length tc] rfl rfl hnews (by simp [Value.oneCell']) (by unfold maxLen; omega) (by omega) hsz2 ?_)
          intro v' w5 hown' hgrow _ _
          obtain ⟨g', cap', rfl⟩ := own_slice hown'
          have HP7 := Lib.hid (HP3.out.grow hown' hgrow)
          clear hown' hgrow hrow hnews q0 q1 q2 q3 q4
          go_wp2
          go_roundw
          case rel =>
            refine ⟨k + 1, g', cap', by go_num, hk, rfl, ?_⟩
            rw [HY.out]; exact HP7.out
          case measure => simp [intOf]; omega
        · have hkk : k = R.length := by omega
          subst hkk
          have hsin := subs_in (by have := HP.out.row; rw [List.take_length] at this; exact this) rfl (fun x hx => (HI.out.all x hx).later HP.out.bel)
          have HBW := Lib.hid HP.out.bel
          have cx := crg _ _ e0 hsin HP.out.bel hE
          clear crg crd brg brd hsin HP
          go_wp2_with fail
          with_reducible refine cx.mono ?_
          rintro e w2 ⟨As, cs, Rs, rfl, hsh, hmr, hb2⟩
          have HB2 := Lib.hid (HBW.out.trans (hb2.mono HBW.out.size))
          have hRs : Rs.length = R.length := by have := congrArg List.length hmr; simpa [subsV_len] using this
          have HRs := Lib.hid hRs
          have HSB : Hid (W.heap.size ≤ wr.heap.size) := Lib.hid HBW.out.size
          have h2 := HI.out.later HB2.out
          have HST2 : Hid (DaS W B p (.slice A R.length c) R G wr.heap.size (.slice As R.length cs) (rangeD (subsD G.L) T) Rs 0 w2) := Lib.hid ⟨Nat.zero_le _, by rw [dpR_zero]; exact h2.abs' rfl, hsh, Off.of_below _ HB2.out⟩
          clear hb2 cx hsh hmr hRs h2 HBW
          obtain ⟨bz, hbz⟩ : ∃ bz, wr.heap.size = bz := ⟨_, rfl⟩
          rw [hbz] at HSB HST2
          clear hbz
          go_wp2_with fail
          go_loopw [13, 14, 47] (fun _ _ j wx => ∃ k : Nat, j = .int .i64 k ∧ DaS W B p (.slice A R.length c) R G bz (.slice As R.length cs) (rangeD (subsD G.L) T) Rs k wx) (fun _ _ j _ => R.length - (intOf j).toNat)
          case atStart => exact ⟨0, rfl, HST2.out⟩
          case round =>
            obtain ⟨k, rfl, hD⟩ := hrel
            have hle := hD.le
            have HD := Lib.hid hD
            clear HST2
            obtain ⟨b0, b1, b2, b3, b4, b5, b6, bl, f0, f1, f2, f3, f4⟩ := gr7 hD.is.box
            by_cases hk : k < R.length
            · obtain ⟨x, hx⟩ : ∃ x, R[k]? = some x := ⟨_, List.getElem?_eq_getElem hk⟩
              obtain ⟨r, hr⟩ : ∃ r, Rs[k]? = some r := ⟨_, List.getElem?_eq_getElem (by rw [HRs.out]; exact hk)⟩
              obtain ⟨g, c', e, hgl, _, hgp, q0, q1, q2, q3, q4, hf⟩ := hD.is.at_ (dpR_at hx)
              injection e with e en ec
              subst e
              clear en ec
              have hf4 := hf (k * 5 + 4)
              obtain ⟨-, g3, eA, hg3, hb3, s0, s1, -⟩ := hD.sh.at_ hr
              subst eA
              obtain ⟨pA, pc, ep⟩ := own_slice (hD.sh.parts k r hr)
              have HBg : Hid (g < bz) := Lib.hid (by
                obtain ⟨g0, c0, e0', hg0, _⟩ := HI.out.at_ hx
                have hgg : g = g0 := by simpa [Value.ownBlock] using congrArg Value.ownBlock e0'
                rw [← hgg] at hg0
                exact Nat.lt_of_lt_of_le hg0 HSB.out)
              have HBB : Hid (B ≤ bz) := Lib.hid (Nat.le_trans hBW HSB.out)
              obtain ⟨rn, rv⟩ := r
              dsimp only at ep s0 s1
              subst ep
              have HST3 := Lib.hid ((hD.step hx hr HBB.out HBg.out).later ((Below.refl _ _).alloc (Nat.le_refl _) (.cells #[.int .i64 rn, .slice pA ((rangeD (subsD G.L) T) k).length pc] 147)))
              have hki : (k : Int) < (R.length : Int) := by omega
              dsimp only at HST3
              clear hD hx hr hf HI HBg HBB HSB HRs HB2 HMR HST hle
              generalize ((rangeD (subsD G.L) T) k).length = pn at *
              generalize hi5 : k * 5 = i5 at *
              go_wp2_with fail
              go_region
              all_goals go_wp2_with fail
              all_goals go_roundw
              case rel => exact ⟨k + 1, by go_num, HST3.out.drew9⟩
              case measure => simp [intOf]; omega
            · have hkk : k = R.length := by omega
              subst hkk
              have HAB : Hid ((dpR (rangeD (subsD G.L) T) Rs R R.length).map MV.d = G.L.mapIdx fun j x => { x with P := (rangeD (subsD G.L) T) j }) := Lib.hid (dpR_abs HI.out.abs)
              have o3 := (Off.one wr ⟨p, 0, none⟩ (.int .i64 3)).set (p := ⟨p, 3, none⟩) (.inl (show p = p from rfl)) (.int .i64 0)
              have h3 := hD.is.put (G' := { G with ph := 3, un := 0, L := (dpR (rangeD (subsD G.L) T) Rs R R.length).map MV.d }) o3 ((hD.is.box.set 0 (.int .i64 3)).set 3 (.int .i64 0)) rfl
              have H3 := Lib.hid h3
              have O3 := Lib.hid (hD.off.trans o3 (fun _ _ e => .inl e))
              clear hD h3 o3 HD
              go_wp2_with fail
              go_ret
              exact ⟨rfl, _, dpR_len, H3.out.abs' (by rw [HAB.out]), O3.out⟩
  · rw [hE, if_neg (by decide)]
    cases round with
    | true =>
      go_enter Tryz.func75, Tryz.ntmps75
      go_wp2_with fail
      go_loopw [7, 9, 21] (fun a _ j wr => ∃ (k : Nat) (B1 : Option Addr) (e : Nat), j = .int .i64 k ∧ k ≤ R.length ∧ a = .slice B1 k e ∧ RowS W 142 2 (.slice B1 k e) k (subC (R.take k)) wr) (fun _ _ j _ => R.length - (intOf j).toNat)
      case atStart => exact ⟨0, none, 0, rfl, Nat.zero_le _, rfl, HR0.out⟩
      case round =>
        obtain ⟨k, B1, e0, rfl, hkl, rfl, hP⟩ := hrel
        have HP := Lib.hid hP
        clear hP HR0 b0 b1 b2 b3 b4 b5 b6 bl
        by_cases hk : k < R.length
        · obtain ⟨x, hx⟩ : ∃ x, R[k]? = some x := ⟨_, List.getElem?_eq_getElem hk⟩
          obtain ⟨g, c', e, hgl, _, hgp, q0, q1, q2, q3, q4, _⟩ := (HI.out.later HP.out.bel).at_ hx
          injection e with e _ ec
          subst e
          have hok := HI.out.all x (List.mem_of_getElem? hx)
          obtain ⟨tA, tc, et⟩ := own_slice hok.tr
          obtain ⟨pA, pc, ep⟩ := own_slice hok.pr
          have HY := Lib.hid (subC_succ hx)
          have hki : (k : Int) < (R.length : Int) := by omega
          obtain ⟨⟨n, Tx, u, jj, P⟩, tv, pv⟩ := x
          dsimp only at *
          subst et; subst ep
          have HP3 := Lib.hid ((HP.out.later ((Below.refl wr.heap.size wr).alloc (Nat.le_refl _) (.cells #[.int .i64 n, .slice tA Tx.length tc, .int .i64 u, .bool jj, .slice pA P.length pc] 95))).later ((Below.refl _ _).alloc (Nat.le_refl _) (.cells #[.int .i64 n, .slice tA Tx.length tc] 142)))
          have hrow := HP3.out.row
          have hnews := news_at (Box.new (wr.alloc (.cells #[.int .i64 n, .slice tA Tx.length tc, .int .i64 u, .bool jj, .slice pA P.length pc] 95)) 142 #[.int .i64 n, .slice tA Tx.length tc])
          rw [show (wr.alloc (.cells #[.int .i64 n, .slice tA Tx.length tc, .int .i64 u, .bool jj, .slice pA P.length pc] 95)).heap.size = wr.heap.size + 1 by simp] at hnews
          have hsz2 := HP3.out.bel.size
          clear hok hx ec crg crd brg brd HMR HST
          generalize hi5 : k * 5 = i5 at *
          go_wp2_with (at_builtin; refine wpList_append_own_at _ rfl _ _ 140 rfl W.heap.size 142 i0 (.agg #[.int .i64 0, .slice none 0 0]) 2 32 Tryz.underlying140 hi hz0 hz1 hz2 rfl (by decide) (.slice B1 k e0) k (subC (R.take k)) rfl hrow ⟨wr.heap.size + 1, 0, none⟩ 1 1 [.int .i64 n, .slice tA Tx.length tc] rfl rfl hnews (by simp [Value.oneCell']) (by unfold maxLen; omega) (by omega) hsz2 ?_)
          intro v' w5 hown' hgrow _ _
          obtain ⟨g', cap', rfl⟩ := own_slice hown'
          have HP7 := Lib.hid (HP3.out.grow hown' hgrow)
          clear hown' hgrow hrow hnews q0 q1 q2 q3 q4
          go_wp2
          go_roundw
          case rel =>
            refine ⟨k + 1, g', cap', by go_num, hk, rfl, ?_⟩
            rw [HY.out]; exact HP7.out
          case measure => simp [intOf]; omega
        · have hkk : k = R.length := by omega
          subst hkk
          have hsin := subs_in (by have := HP.out.row; rw [List.take_length] at this; exact this) rfl (fun x hx => (HI.out.all x hx).later HP.out.bel)
          have HBW := Lib.hid HP.out.bel
          have cx := brd _ _ e0 hsin HP.out.bel hE
          clear crg crd brg brd hsin HP
          go_wp2_with fail
          with_reducible refine cx.mono ?_
          rintro e w2 ⟨rfl, hb2⟩
          have HB2 := Lib.hid (HBW.out.trans (hb2.mono HBW.out.size))
          clear hb2 cx
          go_wp2_with fail
          go_ret
          exact ⟨rfl, R, rfl, HI.out.later HB2.out, Off.of_below _ HB2.out⟩
    | false =>
      go_enter Tryz.func75, Tryz.ntmps75
      go_wp2_with fail
      go_loopw [7, 9, 21] (fun a _ j wr => ∃ (k : Nat) (B1 : Option Addr) (e : Nat), j = .int .i64 k ∧ k ≤ R.length ∧ a = .slice B1 k e ∧ RowS W 142 2 (.slice B1 k e) k (subC (R.take k)) wr) (fun _ _ j _ => R.length - (intOf j).toNat)
      case atStart => exact ⟨0, none, 0, rfl, Nat.zero_le _, rfl, HR0.out⟩
      case round =>
        obtain ⟨k, B1, e0, rfl, hkl, rfl, hP⟩ := hrel
        have HP := Lib.hid hP
        clear hP HR0 b0 b1 b2 b3 b4 b5 b6 bl
        by_cases hk : k < R.length
        · obtain ⟨x, hx⟩ : ∃ x, R[k]? = some x := ⟨_, List.getElem?_eq_getElem hk⟩
          obtain ⟨g, c', e, hgl, _, hgp, q0, q1, q2, q3, q4, _⟩ := (HI.out.later HP.out.bel).at_ hx
          injection e with e _ ec
          subst e
          have hok := HI.out.all x (List.mem_of_getElem? hx)
          obtain ⟨tA, tc, et⟩ := own_slice hok.tr
          obtain ⟨pA, pc, ep⟩ := own_slice hok.pr
          have HY := Lib.hid (subC_succ hx)
          have hki : (k : Int) < (R.length : Int) := by omega
          obtain ⟨⟨n, Tx, u, jj, P⟩, tv, pv⟩ := x
          dsimp only at *
          subst et; subst ep
          have HP3 := Lib.hid ((HP.out.later ((Below.refl wr.heap.size wr).alloc (Nat.le_refl _) (.cells #[.int .i64 n, .slice tA Tx.length tc, .int .i64 u, .bool jj, .slice pA P.length pc] 95))).later ((Below.refl _ _).alloc (Nat.le_refl _) (.cells #[.int .i64 n, .slice tA Tx.length tc] 142)))
          have hrow := HP3.out.row
          have hnews := news_at (Box.new (wr.alloc (.cells #[.int .i64 n, .slice tA Tx.length tc, .int .i64 u, .bool jj, .slice pA P.length pc] 95)) 142 #[.int .i64 n, .slice tA Tx.length tc])
          rw [show (wr.alloc (.cells #[.int .i64 n, .slice tA Tx.length tc, .int .i64 u, .bool jj, .slice pA P.length pc] 95)).heap.size = wr.heap.size + 1 by simp] at hnews
          have hsz2 := HP3.out.bel.size
          clear hok hx ec crg crd brg brd HMR HST
          generalize hi5 : k * 5 = i5 at *
          go_wp2_with (at_builtin; refine wpList_append_own_at _ rfl _ _ 140 rfl W.heap.size 142 i0 (.agg #[.int .i64 0, .slice none 0 0]) 2 32 Tryz.underlying140 hi hz0 hz1 hz2 rfl (by decide) (.slice B1 k e0) k (subC (R.take k)) rfl hrow ⟨wr.heap.size + 1, 0, none⟩ 1 1 [.int .i64 n, .slice tA Tx.length tc] rfl rfl hnews (by simp [Value.oneCell']) (by unfold maxLen; omega) (by omega) hsz2 ?_)
          intro v' w5 hown' hgrow _ _
          obtain ⟨g', cap', rfl⟩ := own_slice hown'
          have HP7 := Lib.hid (HP3.out.grow hown' hgrow)
          clear hown' hgrow hrow hnews q0 q1 q2 q3 q4
          go_wp2
          go_roundw
          case rel =>
            refine ⟨k + 1, g', cap', by go_num, hk, rfl, ?_⟩
            rw [HY.out]; exact HP7.out
          case measure => simp [intOf]; omega
        · have hkk : k = R.length := by omega
          subst hkk
          have hsin := subs_in (by have := HP.out.row; rw [List.take_length] at this; exact this) rfl (fun x hx => (HI.out.all x hx).later HP.out.bel)
          have HBW := Lib.hid HP.out.bel
          have cx := brg _ _ e0 hsin HP.out.bel hE
          clear crg crd brg brd hsin HP
          go_wp2_with fail
          with_reducible refine cx.mono ?_
          rintro e w2 ⟨rfl, hb2⟩
          have HB2 := Lib.hid (HBW.out.trans (hb2.mono HBW.out.size))
          clear hb2 cx
          go_wp2_with fail
          go_ret
          exact ⟨rfl, R, rfl, HI.out.later HB2.out, Off.of_below _ HB2.out⟩
end Go.Proofs.YtlokhhjhckiloaaGreat
