/- varint.Get by one contract, for every text of at most 2 to the 60 bytes. -/
import Derived.Test.YtjnphajkoopkgaaGreatDoorNum
import Derived.WalkKit
import Derived.ProofKit
import Derived.LoopTactic
import Derived.Lib.Hide
import Derived.ScopeJumps
import Derived.WalkMore
import Derived.WalkLawsBesides
import Derived.IntWalk
import Derived.Deep.RegionWith
import Derived.Laws.Concat
import Derived.Laws.DeepStrings4
namespace Go.Proofs.YtjnphajkoopkgaaGreatDoor
open Go.RowKit
set_option linter.unusedVariables false
theorem short_c (b j : Nat) (w : World) :
    Calls Tryz.prog 140 #[.int .u8 b, .int .i64 j] w fun e w' => e = .returned (.bool (short b j)) ∧ w = w' := by
  by_cases h : j = 10
  · have hs := Lib.hid (show decide (b = 1) = short b j by unfold short; rw [if_pos h])
    subst h
    go_enter Tryz.func140, Tryz.ntmps140
    go_wp2
    go_ret
    refine ⟨?_, rfl⟩
    rw [← hs.out]
    show Ending.returned (.bool ((b : Int) == 1)) = _
    congr 2
    rw [Bool.eq_iff_iff]; simp; omega
  · by_cases h1 : j = 1
    · have hs := Lib.hid (show true = short b j by unfold short; rw [if_neg h]; simp [h1])
      subst h1
      go_enter Tryz.func140, Tryz.ntmps140
      go_wp2
      go_ret
      exact ⟨by rw [← hs.out]; rfl, rfl⟩
    · have hs := Lib.hid (show decide (b ≠ 0) = short b j by unfold short; rw [if_neg h]; simp [h1])
      have e1 : ((j : Int) == 10) = false := by rw [beq_eq_false_iff_ne]; omega
      have e2 : ((j : Int) == 1) = false := by rw [beq_eq_false_iff_ne]; omega
      clear h h1
      go_enter Tryz.func140, Tryz.ntmps140
      go_wp2
      go_ret
      refine ⟨?_, rfl⟩
      rw [← hs.out]
      show Ending.returned (.bool ((b : Int) != 0)) = _
      congr 2
      rw [Bool.eq_iff_iff]; simp
theorem number_c (u : Nat) (w : World) (hu : u < 18446744073709551616) :
    Calls Tryz.prog 141 #[.int .u64 u] w fun e w' => e = .returned (.int .i64 (dec u)) ∧ w = w' := by
  have hd : (u : Int) / 2 = ((u / 2 : Nat) : Int) := by omega
  have hl : u / 2 ≤ 9223372036854775807 := by omega
  by_cases h : u % 2 = 1
  · have hs := Lib.hid (show -((u / 2 : Nat) : Int) - 1 = dec u by unfold dec; rw [if_pos h])
    have e1 : ((u : Int) % 2 == 1) = true := by simp; omega
    clear h
    generalize u / 2 = x at *
    go_enter Tryz.func141, Tryz.ntmps141
    go_wp2
    go_ret
    exact ⟨by rw [← hs.out]; rfl, rfl⟩
  · have hs := Lib.hid (show ((u / 2 : Nat) : Int) = dec u by unfold dec; rw [if_neg h])
    have e1 : ((u : Int) % 2 == 1) = false := by rw [beq_eq_false_iff_ne]; omega
    clear h
    generalize u / 2 = x at *
    go_enter Tryz.func141, Tryz.ntmps141
    go_wp2
    go_ret
    exact ⟨by rw [← hs.out]; rfl, rfl⟩
set_option maxHeartbeats 1000000 in
set_option maxRecDepth 100000 in
theorem get_in (s : ByteArray) (a : Nat) (W : World) (hs : s.size ≤ 1152921504606846976) (ha : a ≤ s.size) :
    Calls Tryz.prog 114 #[.string s, .int .i64 a] W fun e w' => e = .returned (Tri (getT a (s.data.toList.drop a)).1 (getT a (s.data.toList.drop a)).2.1 (getT a (s.data.toList.drop a)).2.2) ∧ W = w' := by
  have hlen : Hid ((s.data.toList.drop a).length = s.size - a) := Lib.hid (by simp)
  have hst : Hid (GetAt (s.data.toList.drop a) 0 0) := Lib.hid ⟨by omega, by omega, fun b hb => by simp at hb, by simp [val]⟩
  go_enter Tryz.func114, Tryz.ntmps114
  go_wp2
  refine wp_scope_label 0 (GetJ s a W) (fun a' _ => 10 - (intOf (a'.tmps.getD 8 undef)).toNat) rfl ?_ ?_
  · rintro a' w' ⟨i, code, u9, u10, u11, u12, u13, u14, u15, u16, u17, u18, u19, u20, u21, u22, u23, u24, u25, u26, u27, u28, u29, u30, u31, u32, u33, u34, u35, u36, u37, u38, u39, u40, u41, u42, u43, u44, u45, u46, u47, rfl, hR, rfl⟩
    have hi10 := hR.le
    have hil := hR.len
    by_cases h10 : i = 10
    · have hT := Lib.hid (getT_form (a := a) (l := s.data.toList.drop a) (by have := hR.going; rw [h10] at this; exact this) (by rw [← h10]; exact hil))
      subst h10
      go_wp2
      simp only [Exit.jump]
      go_ret3
      exact ⟨by rw [hT.out]; rfl, rfl⟩
    · have hlt10 : i < 10 := by omega
      have e10 : ((i : Int) == 10) = false := by rw [beq_eq_false_iff_ne]; omega
      by_cases hcut : i = s.size - a
      · have hT := Lib.hid (getT_cut (a := a) (l := s.data.toList.drop a) (by have := hR.going; rw [List.take_of_length_le (by rw [hlen.out]; omega)] at this; exact this) (by rw [hlen.out]; omega))
        have ec : ((i : Int) == (s.size : Int) - (a : Int)) = true := by rw [beq_iff_eq]; omega
        clear hR hil
        go_wp2
        simp only [Exit.jump]
        go_ret3
        exact ⟨by rw [hT.out]; rfl, rfl⟩
      · have hin : a + i < s.size := by have := hlen.out; omega
        have ec : ((i : Int) == (s.size : Int) - (a : Int)) = false := by rw [beq_eq_false_iff_ne]; omega
        have hat := drop_at hin
        have hb8 := toNat_lt s[a + i]
        have hcode : code < 18446744073709551616 := by rw [hR.all]; exact Nat.mod_lt _ (by decide)
        have hmore := val_more hat hlt10
        rw [← hR.all] at hmore
        have e1 := and127 hb8
        have e2 := shl_u64 (s[a + i].toNat % 128) (7 * i)
        have e3 := u64_or_nat code (s[a + i].toNat % 128 * 2 ^ (7 * i) % 18446744073709551616) hcode (Nat.mod_lt _ (by decide))
        rw [hmore] at e3
        have hx : s[a + i].toNat % 128 < 128 := Nat.mod_lt _ (by decide)
        have hstep := fun hg => hR.step hat hlt10 hg
        have hT := getT_at (a := a) hR.going hlt10 hat
        have hv64 : val ((s.data.toList.drop a).take (i + 1)) % 18446744073709551616 < 18446744073709551616 := Nat.mod_lt _ (by decide)
        have HV := Lib.hid hv64
        clear hmore hcode hR hil hat hv64
        generalize val ((s.data.toList.drop a).take (i + 1)) % 18446744073709551616 = v at *
        generalize s[a + i].toNat % 128 * 2 ^ (7 * i) % 18446744073709551616 = y at *
        generalize s[a + i].toNat % 128 = x at *
        by_cases hbig : 128 ≤ s[a + i].toNat
        · have HS := Lib.hid (hstep hbig)
          have hi1 : ((i : Int) + 1) = ((i + 1 : Nat) : Int) := by omega
          have HI := Lib.hid hi1
          clear hT hstep hi1
          go_wp2
          go_step3
          rw [HI.out]
          refine ⟨rfl, ⟨i + 1, v, _, _, _, _, _, _, _, _, _, _, _, _, _, _, _, _, _, _, _, _, _, _, _, _, _, _, _, _, _, _, _, _, _, _, _, _, _, _, _, rfl, HS.out, rfl⟩, ?_⟩
          show 10 - (i + 1) < 10 - i
          omega
        · have hT1 := hT (by omega)
          have cS : Calls Tryz.prog 140 #[.int .u8 (s[a + i].toNat : Int), .int .i64 ((i : Int) + 1)] w' _ := short_c s[a + i].toNat (i + 1) w'
          have cN : Calls Tryz.prog 141 #[.int .u64 (v : Int)] w' _ := number_c v w' HV.out
          clear hT hstep
          cases hsh : short s[a + i].toNat (i + 1) with
          | true =>
            rw [hsh] at cS hT1
            rw [if_pos rfl] at hT1
            have HT := Lib.hid hT1
            clear hT1 hsh
            go_wp2_with (first
              | ((with_reducible refine cS.mono ?_); rintro e w' ⟨rfl, rfl⟩)
              | ((with_reducible refine cN.mono ?_); rintro e w' ⟨rfl, rfl⟩))
            simp only [Exit.jump]
            go_ret3
            refine ⟨?_, rfl⟩
            rw [HT.out, Int.add_assoc]
            rfl
          | false =>
            rw [hsh] at cS hT1
            rw [if_neg (by simp)] at hT1
            have HT := Lib.hid hT1
            clear hT1 hsh
            go_wp2_with ((with_reducible refine cS.mono ?_); rintro e w' ⟨rfl, rfl⟩)
            simp only [Exit.jump]
            go_ret3
            refine ⟨?_, rfl⟩
            rw [HT.out]
            rfl
  · intro hgo
    go_wp2
    rename_i hK
    exact wp_label (hK _ _ (hgo _ _ ⟨0, 0, _, _, _, _, _, _, _, _, _, _, _, _, _, _, _, _, _, _, _, _, _, _, _, _, _, _, _, _, _, _, _, _, _, _, _, _, _, _, _, rfl, hst.out, rfl⟩))
theorem get_out (s : ByteArray) (at_ : Int) (W : World) (hs : s.size ≤ 1152921504606846976) (ha : at_ < 0 ∨ (s.size : Int) < at_) :
    Calls Tryz.prog 114 #[.string s, .int .i64 at_] W fun e w' => e = .returned (Tri 0 0 1) ∧ W = w' := by
  rcases ha with ha | ha
  · go_enter Tryz.func114, Tryz.ntmps114
    go_wp2
    go_step3
    go_wp2
    try rw [Exit.noGoto_ret]
    go_ret3
    exact ⟨rfl, rfl⟩
  · have hd : decide (at_ ≤ (s.size : Int)) = false := decide_eq_false (by omega)
    go_enter Tryz.func114, Tryz.ntmps114
    go_wp2
    go_step3
    go_wp2
    try rw [Exit.noGoto_ret]
    go_ret3
    exact ⟨rfl, rfl⟩
theorem get_c (s : ByteArray) (p : Int) (W : World) (hs : s.size ≤ 1152921504606846976) :
    Calls Tryz.prog 114 #[.string s, .int .i64 p] W fun e w' => e = .returned (Tri (getG s p).1 (getG s p).2.1 (getG s p).2.2) ∧ W = w' := by
  by_cases h : p < 0 ∨ (s.size : Int) < p
  · have e : getG s p = (0, 0, 1) := by unfold getG; rw [if_pos h]
    rw [e]
    exact get_out s p W hs h
  · obtain ⟨a, rfl⟩ : ∃ a : Nat, p = a := ⟨p.toNat, by omega⟩
    have e : getG s a = getT a (s.data.toList.drop a) := by unfold getG; rw [if_neg h]; rfl
    rw [e]
    exact get_in s a W hs (by omega)
end Go.Proofs.YtjnphajkoopkgaaGreatDoor
