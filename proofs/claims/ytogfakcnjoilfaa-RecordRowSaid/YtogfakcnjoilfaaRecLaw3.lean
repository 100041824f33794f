/- The law RecordShort walks to true for every record and every cut. -/
import Derived.Test.YtogfakcnjoilfaaRecLaw2
namespace Go.Proofs.Ytogfakcnjoilfaa
open Go.RowKit
set_option linter.unusedVariables false
theorem cut_take {l : List UInt8} {k : Nat} (h : k < l.length) : Cut ((⟨l.toArray⟩ : ByteArray).extract 0 k) 0 l := by
  refine ⟨by omega, by omega, l.drop k, ?_, ?_⟩
  · intro e
    have := congrArg List.length e
    rw [List.length_drop] at this
    simp at this
    omega
  · rw [extract_list]
    simp
/-- The place of the cut. -/
def cutAt (a : Int) : Int := if a < 0 then -(a + 1) else a
theorem cutAt_range {a : Int} (h0 : -9223372036854775808 ≤ a) (h1 : a ≤ 9223372036854775807) : 0 ≤ cutAt a ∧ cutAt a ≤ 9223372036854775807 := by
  unfold cutAt; split <;> omega
set_option maxHeartbeats 4000000 in
set_option maxRecDepth 100000 in
theorem short_tail (r : Rec) (A : Option Addr) (c : Nat) (a1 : Int) (W : World) (hR : RIn W r A c) (h0 : -9223372036854775808 ≤ a1) (h1 : a1 ≤ 9223372036854775807) (hfew : r.heads.length ≤ 20) (hok : okRec r = true) :
    Calls Try.prog 8 #[recV r A c, .int .i64 a1] W (Yes W) := by
  have hb0 : Below W.heap.size W (W.alloc (.cells (recC r A c) 24)) := (Below.refl _ _).alloc (Nat.le_refl _) _
  have hf := fun w => few_c r A c w hR.len
  rw [decide_eq_true hfew] at hf
  have X0 := Lib.hid (Box.new W 24 (recC r A c))
  have R0 := Lib.hid (hR.below hb0)
  have B0 := Lib.hid hb0
  clear hb0 hR
  have hen := fun w hx => enc_c r A c w hx
  have HR := Lib.hid (fun (w w' : World) (B : Option Addr) (d : Nat) (hx : RIn w r B d) (hb : Below w.heap.size w w') => hx.below hb)
  rw [hok, if_pos rfl, show recE r = 0 by unfold recE; rw [hok]; rfl] at hen
  have hz := enc_le hok
  have hp : 0 < (encR r).size := enc_pos hok
  obtain ⟨m, hm⟩ : ∃ m : Nat, cutAt a1 = m := ⟨(cutAt a1).toNat, by have := cutAt_range h0 h1; omega⟩
  have hmr : (m : Int) ≤ 9223372036854775807 := by have := cutAt_range h0 h1; omega
  obtain ⟨k, hk⟩ : ∃ k : Nat, k = m % (encR r).size := ⟨_, rfl⟩
  have hkl : k < (encR r).size := by rw [hk]; exact Nat.mod_lt _ hp
  have hki : (m : Int).tmod ((encR r).size : Int) = (k : Int) := by rw [Int.tmod_eq_emod_of_nonneg (by omega), hk]; rfl
  have hki2 : (m : Int) % ((encR r).size : Int) = (k : Int) := by rw [hk]; rfl
  have hdec : ∀ w, Calls Try.prog 18 #[.string ((encR r).extract 0 k), .int .i64 0] w (GotDec w recZero 0 2) := fun w => by
    have h := pdec_c ((encR r).extract 0 k) 0 w (by rw [ByteArray.size_extract]; omega)
    have e : decR ((encR r).extract 0 k) 0 = (recZero, 0, 2) := dec_cut hok (cut_take hkl)
    rw [e] at h
    exact h
  have hmax : max ((encR r).size : Int) 1 = ((encR r).size : Int) := by omega
  have hpi : (1 : Int) ≤ ((encR r).size : Int) := by omega
  have hkx : k ≤ (encR r).size := by omega
  have hkx2 : (k : Int) ≤ ((encR r).size : Int) := by omega
  have hk0 : (0 : Int) ≤ (k : Int) := by omega
  have HK := Lib.hid hk
  clear hok hk
  generalize encR r = X at *
  obtain ⟨place, time, bare, key, gone, value, heads⟩ := r
  unfold recV recC at *
  simp only at *
  by_cases hneg : a1 < 0
  · have hm2 : -(a1 + 1) = (m : Int) := by unfold cutAt at hm; rw [if_pos hneg] at hm; exact hm
    have hq : (a1 + 1).tmod (X.size : Int) = -(k : Int) := by
      rw [show a1 + 1 = -(m : Int) by omega, Int.neg_tmod, hki]
    have HM := Lib.hid hm2
    clear hm hm2
    go_enter Try.func8, Try.ntmps8
    go_wp2_with fail
    (with_reducible refine (hf _).mono ?_)
    rintro en w1 ⟨rfl, hb1⟩
    have X1 := Lib.hid (X0.out.later hb1)
    have R1 := Lib.hid (HR.out _ _ _ _ R0.out hb1)
    have B1 := Lib.hid (bjoin B0.out hb1 rfl rfl)
    clear hb1 X0 R0 B0 hf
    obtain ⟨y0, y1, y2, y3, y4, y5, y6⟩ := recL_at X1.out
    go_wp2_with fail
    (with_reducible refine (hen _ R1.out).mono ?_)
    rintro en w2 ⟨rfl, hb2⟩
    have B2 := Lib.hid (bjoin B1.out hb2 rfl rfl)
    clear hb2 y0 y1 y2 y3 y4 y5 y6 X1 R1 B1 hen
    go_wp2_with fail
    (with_reducible refine (hdec _).mono ?_)
    rintro en w3 ⟨A3, d3, rfl, ho3, hb3⟩
    unfold recV recC recZero
    simp only
    have B3 := Lib.hid ((bjoin B2.out hb3 rfl rfl).alloc (Nat.le_trans B2.out.size hb3.size) (.cells #[.int .i64 0, .int .i64 0, .bool false, .string ⟨#[]⟩, .bool false, .string ⟨#[]⟩, .slice A3 0 d3] 24))
    clear ho3 hb3 B2 hdec
    go_wp2_with ((with_reducible refine (live_c _).mono ?_); rintro en w4 ⟨rfl, hb4⟩)
    go_ret
    exact ⟨rfl, bjoin B3.out hb4 rfl rfl⟩
  · have hm2 : a1 = (m : Int) := by unfold cutAt at hm; rw [if_neg hneg] at hm; exact hm
    clear hm
    subst hm2
    go_enter Try.func8, Try.ntmps8
    go_wp2_with fail
    (with_reducible refine (hf _).mono ?_)
    rintro en w1 ⟨rfl, hb1⟩
    have X1 := Lib.hid (X0.out.later hb1)
    have R1 := Lib.hid (HR.out _ _ _ _ R0.out hb1)
    have B1 := Lib.hid (bjoin B0.out hb1 rfl rfl)
    clear hb1 X0 R0 B0 hf
    obtain ⟨y0, y1, y2, y3, y4, y5, y6⟩ := recL_at X1.out
    go_wp2_with fail
    (with_reducible refine (hen _ R1.out).mono ?_)
    rintro en w2 ⟨rfl, hb2⟩
    have B2 := Lib.hid (bjoin B1.out hb2 rfl rfl)
    clear hb2 y0 y1 y2 y3 y4 y5 y6 X1 R1 B1 hen
    go_wp2_with fail
    (with_reducible refine (hdec _).mono ?_)
    rintro en w3 ⟨A3, d3, rfl, ho3, hb3⟩
    unfold recV recC recZero
    simp only
    have B3 := Lib.hid ((bjoin B2.out hb3 rfl rfl).alloc (Nat.le_trans B2.out.size hb3.size) (.cells #[.int .i64 0, .int .i64 0, .bool false, .string ⟨#[]⟩, .bool false, .string ⟨#[]⟩, .slice A3 0 d3] 24))
    clear ho3 hb3 B2 hdec
    go_wp2_with ((with_reducible refine (live_c _).mono ?_); rintro en w4 ⟨rfl, hb4⟩)
    go_ret
    exact ⟨rfl, bjoin B3.out hb4 rfl rfl⟩
set_option maxHeartbeats 4000000 in
set_option maxRecDepth 100000 in
theorem recordShort_walk (r : Rec) (A : Option Addr) (c : Nat) (a1 : Int) (W : World) (hR : RIn W r A c) (hS : RSmall r) (w1 : (Lit.int .i64 a1).wf = true) :
    Calls Try.prog 8 #[recV r A c, .int .i64 a1] W (Yes W) := by
  have hbd := i64_bd w1
  clear w1
  by_cases hfew : r.heads.length ≤ 20
  · cases hok : okRec r with
    | true => exact short_tail r A c a1 W hR (by omega) (by omega) hfew hok
    | false =>
      have hb0 : Below W.heap.size W (W.alloc (.cells (recC r A c) 24)) := (Below.refl _ _).alloc (Nat.le_refl _) _
      have hf := fun w => few_c r A c w hR.len
      have X0 := Lib.hid (Box.new W 24 (recC r A c))
      have R0 := Lib.hid (hR.below hb0)
      have B0 := Lib.hid hb0
      clear hb0 hR hS hbd
      rw [decide_eq_true hfew] at hf
      have hen := fun w hx => enc_c r A c w hx
      have HR := Lib.hid (fun (w w' : World) (B : Option Addr) (d : Nat) (hx : RIn w r B d) (hb : Below w.heap.size w w') => hx.below hb)
      rw [hok, show recE r = 1 by unfold recE; rw [hok]; rfl] at hen
      simp only [Bool.false_eq_true, if_false] at hen
      clear hok hfew
      obtain ⟨place, time, bare, key, gone, value, heads⟩ := r
      unfold recV recC at *
      simp only at *
      go_enter Try.func8, Try.ntmps8
      go_wp2_with fail
      (with_reducible refine (hf _).mono ?_)
      rintro en w1 ⟨rfl, hb1⟩
      have X1 := Lib.hid (X0.out.later hb1)
      have R1 := Lib.hid (HR.out _ _ _ _ R0.out hb1)
      have B1 := Lib.hid (bjoin B0.out hb1 rfl rfl)
      clear hb1 X0 R0 B0 hf
      obtain ⟨y0, y1, y2, y3, y4, y5, y6⟩ := recL_at X1.out
      go_wp2_with fail
      (with_reducible refine (hen _ R1.out).mono ?_)
      rintro en w2 ⟨rfl, hb2⟩
      have B2 := Lib.hid (bjoin B1.out hb2 rfl rfl)
      clear hb2 y0 y1 y2 y3 y4 y5 y6 X1 R1 B1 hen
      go_wp2_with ((with_reducible refine (live_c _).mono ?_); rintro en w4 ⟨rfl, hb4⟩)
      go_ret
      exact ⟨rfl, bjoin B2.out hb4 rfl rfl⟩
  · have hb0 : Below W.heap.size W (W.alloc (.cells (recC r A c) 24)) := (Below.refl _ _).alloc (Nat.le_refl _) _
    have hf := fun w => few_c r A c w hR.len
    have B0 := Lib.hid hb0
    clear hb0 hR hS hbd
    rw [decide_eq_false hfew] at hf
    obtain ⟨place, time, bare, key, gone, value, heads⟩ := r
    unfold recV recC at *
    simp only at *
    go_enter Try.func8, Try.ntmps8
    go_wp2_with fail
    (with_reducible refine (hf _).mono ?_)
    rintro en w1 ⟨rfl, hb1⟩
    have B1 := Lib.hid (bjoin B0.out hb1 rfl rfl)
    clear hb1 B0 hf hfew
    go_wp2_with ((with_reducible refine (live_c _).mono ?_); rintro en w4 ⟨rfl, hb4⟩)
    go_ret
    exact ⟨rfl, bjoin B1.out hb4 rfl rfl⟩
end Go.Proofs.Ytogfakcnjoilfaa
