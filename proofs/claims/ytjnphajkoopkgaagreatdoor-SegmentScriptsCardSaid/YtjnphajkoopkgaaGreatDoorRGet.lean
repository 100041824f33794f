/- The document's Get by one contract, for every text of at most 2 to the 60 bytes. -/
import Derived.Test.YtjnphajkoopkgaaGreatDoorRPut
import Derived.WalkKit
import Derived.ProofKit
import Derived.LoopTactic
import Derived.Lib.Hide
import Derived.ScopeJumps
import Derived.WalkMore
import Derived.WalkLawsBesides
import Derived.IntWalk
import Derived.Deep.RegionWith
import Derived.Laws.Concat
import Derived.Laws.DeepStrings4
namespace Go.Proofs.YtjnphajkoopkgaaGreatDoor
open Go.RowKit
set_option linter.unusedVariables false
set_option maxHeartbeats 1000000 in
set_option maxRecDepth 100000 in
theorem rget_in (s : ByteArray) (a : Nat) (W : World) (hs : s.size ≤ 1152921504606846976) (ha : a ≤ s.size) :
    Calls Tryz.prog 166 #[.string s, .int .i64 a] W (Good W (Tri (getT a (s.data.toList.drop a)).1 (getT a (s.data.toList.drop a)).2.1 (getT a (s.data.toList.drop a)).2.2)) := by
  have hlen : Hid ((s.data.toList.drop a).length = s.size - a) := Lib.hid (by simp)
  have hst : Hid (RGetAt (s.data.toList.drop a) 0) := Lib.hid ⟨by omega, by omega, fun b hb => by simp at hb⟩
  have hd1 : decide ((a : Int) < 0) = false := decide_eq_false (by omega)
  have hd2 : decide ((s.size : Int) < (a : Int)) = false := decide_eq_false (by omega)
  have hd3 : decide (s.size < a) = false := decide_eq_false (by omega)
  go_enter Tryz.func166, Tryz.ntmps166
  go_wp2
  go_loop [7] (fun x => ∃ k : Nat, x = .int .i64 k ∧ RGetAt (s.data.toList.drop a) k) (fun x => 10 - (intOf x).toNat)
  case atStart => exact ⟨0, rfl, hst.out⟩
  case round =>
    obtain ⟨k, rfl, hR⟩ := hrel
    have hk10 := hR.le
    have hkl := hR.len
    by_cases hgo : k < 10 ∧ a + k < s.size
    · obtain ⟨hk, hak⟩ := hgo
      have hat := drop_at hak
      have hb8 := toNat_lt s[a + k]
      by_cases hbig : 128 ≤ s[a + k].toNat
      · have HS := Lib.hid (hR.step hat hk hbig)
        clear hR hat hkl
        go_wp2
        go_round
        case rel => exact ⟨k + 1, by go_num, HS.out⟩
        case measure => simp [intOf]; omega
      · clear hkl
        have h10 : ((k : Int) == 10) = false := by rw [beq_eq_false_iff_ne]; omega
        have hge : decide ((s.size : Int) ≤ (a : Int) + (k : Int)) = false := decide_eq_false (by omega)
        have hge' : decide (s.size ≤ a + k) = false := decide_eq_false (by omega)
        have hbs : ((s.data.toList.drop a).take (k + 1))[k]? = some s[a + k] := by rw [List.getElem?_take, if_pos (by omega)]; exact hat
        have hT := getT_at (a := a) hR.going hk hat (by omega)
        have hbl : ((s.data.toList.drop a).take (k + 1)).length = k + 1 := by
          have := (List.getElem?_eq_some_iff.1 hat).1
          rw [List.length_take]; omega
        have hsub : Hid ((s.extract a (a + k + 1)).data.toList = (s.data.toList.drop a).take (k + 1)) := Lib.hid (by simp [Nat.add_assoc])
        have hgk := hR.going
        clear hR
        go_wp2
        go_loop [8, 9] (fun x i => ∃ j : Nat, j ≤ k + 1 ∧ i = .int .i64 ((j : Int) - 1) ∧ x = .int .u64 (val (((s.data.toList.drop a).take (k + 1)).drop j) % 18446744073709551616 : Nat)) (fun _ i => (intOf i + 1).toNat)
        case atStart => exact ⟨k + 1, by omega, by go_num, by rw [List.drop_of_length_le (by omega)]; rfl⟩
        case round =>
          obtain ⟨j, hj, rfl, rfl⟩ := hrel
          by_cases hj0 : 0 < j
          · obtain ⟨j, rfl⟩ : ∃ m, j = m + 1 := ⟨j - 1, by omega⟩
            have haj : a + j < s.size := by omega
            have hbj : ((s.data.toList.drop a).take (k + 1))[j]? = some s[a + j] := by rw [List.getElem?_take, if_pos (by omega)]; exact drop_at haj
            have hv := val_down hbj
            have hb8 := toNat_lt s[a + j]
            have hx : s[a + j].toNat % 128 < 128 := Nat.mod_lt _ (by decide)
            have hxi : (s[a + j].toNat : Int) % 128 = ((s[a + j].toNat % 128 : Nat) : Int) := by omega
            have HV := Lib.hid hv
            clear hv hbj
            generalize val (((s.data.toList.drop a).take (k + 1)).drop (j + 1)) % 18446744073709551616 = U at *
            generalize s[a + j].toNat % 128 = x at *
            obtain ⟨U', HU⟩ : ∃ y, Hid (y = val (((s.data.toList.drop a).take (k + 1)).drop j) % 18446744073709551616) := ⟨_, Lib.hid rfl⟩
            have hsum : IntKind.u64.wrap (IntKind.u64.wrap ((U : Int) * 128) + (x : Int)) = (((U * 128 + x) % 18446744073709551616 : Nat) : Int) := by
              simp [IntKind.wrap, IntKind.bits, IntKind.signed]
            rw [HV.out, ← HU.out] at hsum
            go_wp2
            go_round
            case rel => exact ⟨j, by omega, rfl, by rw [HU.out]⟩
            case measure => simp [intOf]
          · obtain rfl : j = 0 := by omega
            rw [List.drop_zero]
            have hV : val ((s.data.toList.drop a).take (k + 1)) % 18446744073709551616 < 18446744073709551616 := Nat.mod_lt _ (by decide)
            have hse := short_enc ((s.data.toList.drop a).take k) s[a + k] hgk (by omega) (by rw [List.length_take]; omega)
            rw [← take_one hat] at hse
            have hkl : ((s.data.toList.drop a).take k).length = k := by
              have := (List.getElem?_eq_some_iff.1 hat).1
              rw [List.length_take]; omega
            rw [hkl] at hse
            rw [hse] at hT
            generalize val ((s.data.toList.drop a).take (k + 1)) % 18446744073709551616 = V at *
            have hput : putL (dec V) = enc V := by unfold putL; rw [code_dec]
            have hdr := dec_range hV
            have c0 : ∀ w, Calls Tryz.prog 128 #[.int .i64 (dec V)] w (Good w (.string ⟨(putL (dec V)).toArray⟩)) := fun w => rput_c (dec V) w hdr.1 hdr.2
            rw [hput] at c0
            have hh : (V : Int) / 2 = ((V / 2 : Nat) : Int) := by omega
            have hl2 : V / 2 ≤ 9223372036854775807 := by omega
            clear hbs hat hse hput hdr hV
            by_cases hcmp : enc V = (s.data.toList.drop a).take (k + 1)
            · have hE : (⟨(enc V).toArray⟩ : ByteArray) = s.extract a (a + k + 1) := by
                rw [hcmp, ← hsub.out]
              rw [hE] at c0
              have hT1 : Hid (getT a (s.data.toList.drop a) = (dec V, (a : Int) + (k : Int) + 1, 0)) := Lib.hid (by rw [hT, if_pos (by simpa using hcmp)])
              clear hT
              by_cases hodd : V % 2 = 1
              · have e1 : ((V : Int) % 2 == 1) = true := by simp; omega
                have HD := Lib.hid (dec_odd hodd)
                rw [HD.out] at c0
                clear hodd hcmp hE
                generalize V / 2 = h at *
                go_wp2
                have q1 : IntKind.i64.wrap ((a : Int) + (k : Int)) = (a : Int) + (k : Int) := IntWalk.i64_in _ (by omega)
                have q2 : IntKind.i64.wrap ((a : Int) + (k : Int) + 1) = (a : Int) + (k : Int) + 1 := IntWalk.i64_in _ (by omega)
                have q3 : (a : Int) ≤ (a : Int) + (k : Int) + 1 := by omega
                have q4 : (a : Int) + (k : Int) + 1 ≤ (s.size : Int) := by omega
                have q5 : ((a : Int) + (k : Int) + 1).toNat = a + k + 1 := by omega
                go_region_with (go_at_call 128; refine (c0 _).mono ?_; rintro e w1 ⟨rfl, hb⟩)
                clear q1 q2 q5
                go_wp2
                go_ret3
                refine ⟨?_, hb.os, hb.tape, hb.output, hb.size, hb.block⟩
                rw [hT1.out, HD.out, Int.add_assoc]
                rfl
              · have e1 : ((V : Int) % 2 == 1) = false := by rw [beq_eq_false_iff_ne]; omega
                have HD := Lib.hid (dec_even hodd)
                rw [HD.out] at c0
                clear hodd hcmp hE
                generalize V / 2 = h at *
                go_wp2
                have q1 : IntKind.i64.wrap ((a : Int) + (k : Int)) = (a : Int) + (k : Int) := IntWalk.i64_in _ (by omega)
                have q2 : IntKind.i64.wrap ((a : Int) + (k : Int) + 1) = (a : Int) + (k : Int) + 1 := IntWalk.i64_in _ (by omega)
                have q3 : (a : Int) ≤ (a : Int) + (k : Int) + 1 := by omega
                have q4 : (a : Int) + (k : Int) + 1 ≤ (s.size : Int) := by omega
                have q5 : ((a : Int) + (k : Int) + 1).toNat = a + k + 1 := by omega
                go_region_with (go_at_call 128; refine (c0 _).mono ?_; rintro e w1 ⟨rfl, hb⟩)
                clear q1 q2 q5
                go_wp2
                go_ret3
                refine ⟨?_, hb.os, hb.tape, hb.output, hb.size, hb.block⟩
                rw [hT1.out, HD.out, Int.add_assoc]
                rfl
            · have hE : (⟨(enc V).toArray⟩ : ByteArray) ≠ s.extract a (a + k + 1) := fun e => hcmp (by rw [← hsub.out, ← e])
              have hne := str_ne hE
              generalize (⟨(enc V).toArray⟩ : ByteArray) = r at *
              have hT1 : Hid (getT a (s.data.toList.drop a) = (0, 0, 3)) := Lib.hid (by rw [hT, if_neg (by simpa using hcmp)])
              clear hT hE
              by_cases hodd : V % 2 = 1
              · have e1 : ((V : Int) % 2 == 1) = true := by simp; omega
                have HD := Lib.hid (dec_odd hodd)
                rw [HD.out] at c0
                clear hodd hcmp
                generalize V / 2 = h at *
                go_wp2
                have q1 : IntKind.i64.wrap ((a : Int) + (k : Int)) = (a : Int) + (k : Int) := IntWalk.i64_in _ (by omega)
                have q2 : IntKind.i64.wrap ((a : Int) + (k : Int) + 1) = (a : Int) + (k : Int) + 1 := IntWalk.i64_in _ (by omega)
                have q3 : (a : Int) ≤ (a : Int) + (k : Int) + 1 := by omega
                have q4 : (a : Int) + (k : Int) + 1 ≤ (s.size : Int) := by omega
                have q5 : ((a : Int) + (k : Int) + 1).toNat = a + k + 1 := by omega
                go_region_with (go_at_call 128; refine (c0 _).mono ?_; rintro e w1 ⟨rfl, hb⟩)
                clear q1 q2 q5
                go_wp2
                go_ret3
                refine ⟨?_, hb.os, hb.tape, hb.output, hb.size, hb.block⟩
                rw [hT1.out]
                rfl
              · have e1 : ((V : Int) % 2 == 1) = false := by rw [beq_eq_false_iff_ne]; omega
                have HD := Lib.hid (dec_even hodd)
                rw [HD.out] at c0
                clear hodd hcmp
                generalize V / 2 = h at *
                go_wp2
                have q1 : IntKind.i64.wrap ((a : Int) + (k : Int)) = (a : Int) + (k : Int) := IntWalk.i64_in _ (by omega)
                have q2 : IntKind.i64.wrap ((a : Int) + (k : Int) + 1) = (a : Int) + (k : Int) + 1 := IntWalk.i64_in _ (by omega)
                have q3 : (a : Int) ≤ (a : Int) + (k : Int) + 1 := by omega
                have q4 : (a : Int) + (k : Int) + 1 ≤ (s.size : Int) := by omega
                have q5 : ((a : Int) + (k : Int) + 1).toNat = a + k + 1 := by omega
                go_region_with (go_at_call 128; refine (c0 _).mono ?_; rintro e w1 ⟨rfl, hb⟩)
                clear q1 q2 q5
                go_wp2
                go_ret3
                refine ⟨?_, hb.os, hb.tape, hb.output, hb.size, hb.block⟩
                rw [hT1.out]
                rfl
    · by_cases h10 : k = 10
      · have hT := Lib.hid (getT_form (a := a) (l := s.data.toList.drop a) (by have := hR.going; rw [h10] at this; exact this) (by rw [← h10]; exact hkl))
        subst h10
        clear hR hkl
        go_wp2
        go_ret3
        exact ⟨by rw [hT.out]; rfl, Below.refl _ _⟩
      · have hT := Lib.hid (getT_cut (a := a) (l := s.data.toList.drop a) (by have := hR.going; rw [List.take_of_length_le (by rw [hlen.out]; omega)] at this; exact this) (by rw [hlen.out]; omega))
        have e10 : ((k : Int) == 10) = false := by rw [beq_eq_false_iff_ne]; omega
        have g1 : ¬ a + k < s.size := by omega
        have g2 : k < 10 := by omega
        clear hR hkl
        go_wp2
        go_ret3
        exact ⟨by rw [hT.out]; rfl, Below.refl _ _⟩
theorem rget_out (s : ByteArray) (at_ : Int) (W : World) (hs : s.size ≤ 1152921504606846976) (ha : at_ < 0 ∨ (s.size : Int) < at_) :
    Calls Tryz.prog 166 #[.string s, .int .i64 at_] W (Good W (Tri 0 0 1)) := by
  rcases ha with ha | ha
  · go_enter Tryz.func166, Tryz.ntmps166
    go_wp2
    go_ret3
    exact ⟨rfl, Below.refl _ _⟩
  · have hd : decide ((s.size : Int) < at_) = true := decide_eq_true ha
    go_enter Tryz.func166, Tryz.ntmps166
    go_wp2
    go_ret3
    exact ⟨rfl, Below.refl _ _⟩
theorem rget_c (s : ByteArray) (p : Int) (W : World) (hs : s.size ≤ 1152921504606846976) :
    Calls Tryz.prog 166 #[.string s, .int .i64 p] W (Good W (Tri (getG s p).1 (getG s p).2.1 (getG s p).2.2)) := by
  by_cases h : p < 0 ∨ (s.size : Int) < p
  · have e : getG s p = (0, 0, 1) := by unfold getG; rw [if_pos h]
    rw [e]
    exact rget_out s p W hs h
  · obtain ⟨a, rfl⟩ : ∃ a : Nat, p = a := ⟨p.toNat, by omega⟩
    have e : getG s a = getT a (s.data.toList.drop a) := by unfold getG; rw [if_neg h]; rfl
    rw [e]
    exact rget_in s a W hs (by omega)
end Go.Proofs.YtjnphajkoopkgaaGreatDoor
