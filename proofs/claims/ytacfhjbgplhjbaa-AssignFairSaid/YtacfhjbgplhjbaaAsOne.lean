/- assign: AssignOne, walked. No condition. -/
import Derived.Test.YtacfhjbgplhjbaaAsLv
import Derived.Test.YtacfhjbgplhjbaaAsRs
import Derived.Test.YtacfhjbgplhjbaaAsRo
import Derived.Test.YtacfhjbgplhjbaaAsSm
namespace Go.Proofs.Ytacfhjbgplhjbaa
open Go.RowKit
set_option linter.unusedVariables false
/-- Members with what they got. -/
def shL (M : List Int) (D : Nat → List TX) : List (Int × List TX) := (List.range M.length).map fun k => (M.getD k 0, D k)
theorem shL_len (M : List Int) (D : Nat → List TX) : (shL M D).length = M.length := by simp [shL]
theorem shL_at {M : List Int} {D : Nat → List TX} {k : Nat} {m : Int} (h : M[k]? = some m) : (shL M D)[k]? = some (m, D k) := by
  have hk := (List.getElem?_eq_some_iff.1 h).1
  unfold shL
  rw [List.getElem?_map, List.getElem?_range hk]
  simp [h]
theorem shL_mem {M : List Int} {D : Nat → List TX} {x : Int × List TX} (h : x ∈ shL M D) : ∃ k, k < M.length ∧ x.2 = D k := by
  unfold shL at h
  obtain ⟨k, hk, rfl⟩ := List.mem_map.1 h
  exact ⟨k, List.mem_range.1 hk, rfl⟩
theorem ShIs.inn {base : Nat} {w : World} {A : Option Addr} {n c : Nat} {R : List (Int × Value)} {D : Nat → List TX} (h : ShIs base w (.slice A n c) R D) : ShIn w A (shL (R.map (·.1)) D) := fun hp => by
  rw [shL_len, List.length_map] at hp
  obtain ⟨r0, hr0⟩ : ∃ r, R[0]? = some r := ⟨_, List.getElem?_eq_getElem hp⟩
  obtain ⟨_, g, rfl, hgl, _⟩ := h.at_ hr0
  refine ⟨g, 0, rfl, hgl, fun j x hx => ?_⟩
  have hj : j < R.length := by have := (List.getElem?_eq_some_iff.1 hx).1; rwa [shL_len, List.length_map] at this
  obtain ⟨r, hr⟩ : ∃ r, R[j]? = some r := ⟨_, List.getElem?_eq_getElem hj⟩
  obtain ⟨_, g', e, _, _, q1, q2, _⟩ := h.at_ hr
  injection e with e
  injection e with e
  subst e
  have hpj := h.parts j r hr
  obtain ⟨P, cp, ep⟩ := own_slice hpj
  rw [shL_at (by rw [List.getElem?_map, hr]; rfl)] at hx
  injection hx with hx
  subst hx
  rw [ep] at hpj q2
  rw [Nat.zero_add]
  exact ⟨P, cp, q1, q2, prt_in hpj⟩
theorem GotSh.inn {W w : World} {S : List SX} {D : Nat → List TX} {A : Option Addr} {c : Nat} {R : List (Int × Value)} (h : ShIs W.heap.size w (.slice A S.length c) R D) (hm : R.map (·.1) = S.map (·.1)) : ShIn w A (shL (S.map (·.1)) D) := by
  have := h.inn
  rwa [hm] at this
theorem few_of {S : List SX} {T : List TX} (h : fewB S T = true) : S.length ≤ 30 ∧ T.length ≤ 30 := by
  unfold fewB at h
  simp only [Bool.and_eq_true, decide_eq_true_eq] at h
  exact h.1
set_option maxHeartbeats 16000000 in
set_option maxRecDepth 100000 in
theorem assignOne_walk (S : List SX) (A : Option Addr) (c : Nat) (T : List TX) (A2 : Option Addr) (c2 : Nat) (W : World) (hS : SbIn W A S) (hl : S.length ≤ 140737488351232) (hz : ∀ x ∈ S, x.2.1.length ≤ 140737488351232) (hT : TpIn W A2 T) (hl2 : T.length ≤ 140737488351232) (hsz : ∀ t ∈ T, t.1.size ≤ 281474976710656) :
    Calls Try.prog 3 #[.slice A S.length c, .slice A2 T.length c2] W (Good W (.bool true)) := by
  have c1 := few_c S A c T A2 c2 W hS hl hl2 hz
  cases hf : fewB S T with
  | false =>
    rw [hf] at c1
    clear hS hT hz hsz hf
    go_enter Try.func3, Try.ntmps3
    go_wp2_with fail
    with_reducible refine c1.mono ?_
    rintro e w1 ⟨rfl, hb1⟩
    go_wp2_with ((with_reducible refine (live14_c _).mono ?_); rintro e w2 ⟨rfl, hb2⟩)
    go_ret
    exact ⟨rfl, hb1.trans (hb2.mono hb1.size)⟩
  | true =>
    rw [hf] at c1
    have HS := Lib.hid hS
    have HT := Lib.hid hT
    have c7 := fun w (hb : Below W.heap.size W w) => check_c S A c T A2 c2 w (HS.out.below hb) (HT.out.below hb) hl hl2 hz
    have c8 := fun w (hb : Below W.heap.size W w) => rcheck_c S A c T A2 c2 w (HS.out.below hb) (HT.out.below hb) hl hl2 hz
    rcases chk_cases S T with hk | hk
    · have c2' := fun w (hb : Below W.heap.size W w) => range_c S A c T A2 c2 w (HS.out.below hb) (HT.out.below hb) hz hsz hk
      have c3 := fun w (hb : Below W.heap.size W w) => rrange_c S A c T A2 c2 w (HS.out.below hb) (HT.out.below hb) hz hk
      have c4 := fun w (hb : Below W.heap.size W w) => round_c S A c T A2 c2 w (HS.out.below hb) (HT.out.below hb) hz hsz hk
      have c5 := fun w (hb : Below W.heap.size W w) => rround_c S A c T A2 c2 w (HS.out.below hb) (HT.out.below hb) hz hk
      have hmx := chk_ok hk
      have hT16 := fun t ht => (okT_iff.1 ((mayT_iff.1 hmx.2).2.1 t ht)).2
      have hSl := (mayS_iff.1 hmx.1).1
      have hTl := (mayT_iff.1 hmx.2).1
      have hr1 : ∀ x ∈ shL (S.map (·.1)) (rangeD S T), x.2.length ≤ 100000 := fun x hx => by
        obtain ⟨k, _, e⟩ := shL_mem hx
        rw [e]
        have := rangeD_len (S := S) hT16 T.length (Nat.le_refl _) k
        rw [List.take_length] at this
        omega
      have hr2 : ∀ x ∈ shL (S.map (·.1)) (roundD S T).1, x.2.length ≤ 100000 := fun x hx => by
        obtain ⟨k, _, e⟩ := shL_mem hx
        rw [e]
        have := roundD_len (S := S) hT16 T.length (Nat.le_refl _) k
        rw [List.take_length] at this
        omega
      have hln : ∀ D, (shL (S.map (·.1)) D).length = S.length := fun D => by rw [shL_len, List.length_map]
      have c6 := fun B1 d1 B2 d2 w (h1 : ShIn w B1 (shL (S.map (·.1)) (rangeD S T))) (h2 : ShIn w B2 (shL (S.map (·.1)) (rangeD S T))) => same_c _ B1 d1 B2 d2 w h1 h2 (by rw [hln]; omega) hr1
      have c9 := fun B1 d1 B2 d2 w (h1 : ShIn w B1 (shL (S.map (·.1)) (roundD S T).1)) (h2 : ShIn w B2 (shL (S.map (·.1)) (roundD S T).1)) => same_c _ B1 d1 B2 d2 w h1 h2 (by rw [hln]; omega) hr2
      simp only [hln] at c6 c9
      rw [hk] at c7 c8
      clear hS hT hf hk hmx hT16 hSl hTl hr1 hr2 hln hz hsz
      go_enter Try.func3, Try.ntmps3
      go_wp2_with fail
      with_reducible refine c1.mono ?_
      rintro e w1 ⟨rfl, hb1⟩
      go_wp2_with fail
      with_reducible refine (c2' _ hb1).mono ?_
      rintro e w2 ⟨B1, d1, R1, rfl, hs1, hm1, hb2⟩
      have HB2 := Lib.hid (hb1.trans (hb2.mono hb1.size))
      have HI1 := Lib.hid (GotSh.inn hs1 hm1)
      clear hb1 hb2 hs1 hm1 c1 c2'
      go_wp2_with fail
      with_reducible refine (c3 _ HB2.out).mono ?_
      rintro e w3 ⟨B2, d2, R2, rfl, hs2, hm2, hb3⟩
      have HB3 := Lib.hid (HB2.out.trans (hb3.mono HB2.out.size))
      have HI2 := Lib.hid (GotSh.inn hs2 hm2)
      have HI1' := Lib.hid (HI1.out.below hb3)
      clear hb3 hs2 hm2 c3 HB2 HI1
      go_wp2_with fail
      with_reducible refine (c4 _ HB3.out).mono ?_
      rintro e w4 ⟨B3, d3, R3, rfl, hs3, hm3, hb4⟩
      have HB4 := Lib.hid (HB3.out.trans (hb4.mono HB3.out.size))
      have HI3 := Lib.hid (GotSh.inn hs3 hm3)
      have HI1 := Lib.hid (HI1'.out.below hb4)
      have HI2' := Lib.hid (HI2.out.below hb4)
      clear hb4 hs3 hm3 c4 HB3 HI1' HI2
      go_wp2_with fail
      with_reducible refine (c5 _ HB4.out).mono ?_
      rintro e w5 ⟨B4, d4, R4, rfl, hs4, hm4, hb5⟩
      have HB5 := Lib.hid (HB4.out.trans (hb5.mono HB4.out.size))
      have HI4 := Lib.hid (GotSh.inn hs4 hm4)
      have HJ1 := Lib.hid (HI1.out.below hb5)
      have HJ2 := Lib.hid (HI2'.out.below hb5)
      have HJ3 := Lib.hid (HI3.out.below hb5)
      clear hb5 hs4 hm4 c5 HB4 HI1 HI2' HI3
      go_wp2_with fail
      with_reducible refine (c6 _ _ _ _ _ HJ1.out HJ2.out).mono ?_
      rintro e w6 ⟨rfl, n6, rfl⟩
      go_wp2_with fail
      with_reducible refine (c9 _ _ _ _ _ (HJ3.out.below (below_drewN (Below.refl _ _) _)) (HI4.out.below (below_drewN (Below.refl _ _) _))).mono ?_
      rintro e w7 ⟨rfl, n7, rfl⟩
      have HB7 : Hid (Below W.heap.size W ((w5.drewN n6).drewN n7)) := Lib.hid (below_drewN (below_drewN HB5.out _) _)
      generalize (w5.drewN n6).drewN n7 = w8 at *
      go_wp2_with fail
      with_reducible refine (c7 _ HB7.out).mono ?_
      rintro e w9 ⟨rfl, hb9⟩
      have HB9 := Lib.hid (HB7.out.trans (hb9.mono HB7.out.size))
      clear hb9 HB7
      go_wp2_with fail
      with_reducible refine (c8 _ HB9.out).mono ?_
      rintro e wa ⟨rfl, hba⟩
      have HBa := Lib.hid (HB9.out.trans (hba.mono HB9.out.size))
      clear hba HB9
      go_wp2_with fail
      with_reducible refine (live14_c _).mono ?_
      rintro e wb ⟨rfl, hbb⟩
      go_wp2_with fail
      go_ret
      exact ⟨rfl, HBa.out.trans (hbb.mono HBa.out.size)⟩
    · have c2' := fun w (hb : Below W.heap.size W w) => range_bad S A c T A2 c2 w (HS.out.below hb) (HT.out.below hb) hl hl2 hz hk
      have c3 := fun w (hb : Below W.heap.size W w) => rrange_bad S A c T A2 c2 w (HS.out.below hb) (HT.out.below hb) hl hl2 hz hk
      have c4 := fun w (hb : Below W.heap.size W w) => round_bad S A c T A2 c2 w (HS.out.below hb) (HT.out.below hb) hl hl2 hz hk
      have c5 := fun w (hb : Below W.heap.size W w) => rround_bad S A c T A2 c2 w (HS.out.below hb) (HT.out.below hb) hl hl2 hz hk
      have c6 := fun w => same_c [] none 0 none 0 w (fun hp => absurd hp (Nat.lt_irrefl _)) (fun hp => absurd hp (Nat.lt_irrefl _)) (by simp) (by simp)
      simp only [List.length_nil] at c6
      rw [hk] at c7 c8
      clear hS hT hf hk hz hsz
      go_enter Try.func3, Try.ntmps3
      go_wp2_with fail
      with_reducible refine c1.mono ?_
      rintro e w1 ⟨rfl, hb1⟩
      go_wp2_with fail
      with_reducible refine (c2' _ hb1).mono ?_
      rintro e w2 ⟨rfl, hb2⟩
      have HB2 := Lib.hid (hb1.trans (hb2.mono hb1.size))
      clear hb1 hb2 c1 c2'
      go_wp2_with fail
      with_reducible refine (c3 _ HB2.out).mono ?_
      rintro e w3 ⟨rfl, hb3⟩
      have HB3 := Lib.hid (HB2.out.trans (hb3.mono HB2.out.size))
      clear hb3 HB2 c3
      go_wp2_with fail
      with_reducible refine (c4 _ HB3.out).mono ?_
      rintro e w4 ⟨rfl, hb4⟩
      have HB4 := Lib.hid (HB3.out.trans (hb4.mono HB3.out.size))
      clear hb4 HB3 c4
      go_wp2_with fail
      with_reducible refine (c5 _ HB4.out).mono ?_
      rintro e w5 ⟨rfl, hb5⟩
      have HB5 := Lib.hid (HB4.out.trans (hb5.mono HB4.out.size))
      clear hb5 HB4 c5
      go_wp2_with fail
      with_reducible refine (c6 _).mono ?_
      rintro e w6 ⟨rfl, n6, rfl⟩
      go_wp2_with fail
      with_reducible refine (c6 _).mono ?_
      rintro e w7 ⟨rfl, n7, rfl⟩
      have HB7 : Hid (Below W.heap.size W ((w5.drewN n6).drewN n7)) := Lib.hid (below_drewN (below_drewN HB5.out _) _)
      generalize (w5.drewN n6).drewN n7 = w8 at *
      go_wp2_with fail
      with_reducible refine (c7 _ HB7.out).mono ?_
      rintro e w9 ⟨rfl, hb9⟩
      have HB9 := Lib.hid (HB7.out.trans (hb9.mono HB7.out.size))
      clear hb9 HB7
      go_wp2_with fail
      with_reducible refine (c8 _ HB9.out).mono ?_
      rintro e wa ⟨rfl, hba⟩
      have HBa := Lib.hid (HB9.out.trans (hba.mono HB9.out.size))
      clear hba HB9
      go_wp2_with fail
      with_reducible refine (live14_c _).mono ?_
      rintro e wb ⟨rfl, hbb⟩
      go_wp2_with fail
      go_ret
      exact ⟨rfl, HBa.out.trans (hbb.mono HBa.out.size)⟩
end Go.Proofs.Ytacfhjbgplhjbaa
