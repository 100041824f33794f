/- The document's Put by one contract, for every number. No condition. -/
import Derived.Test.YtlkhfgkgngcakaaNum
import Derived.WalkKit
import Derived.ProofKit
import Derived.LoopTactic
import Derived.Lib.Hide
import Derived.ScopeJumps
import Derived.WalkMore
import Derived.WalkLawsBesides
import Derived.IntWalk
import Derived.Deep.RegionWith
import Derived.Laws.Concat
import Derived.Laws.DeepStrings4
namespace Go.Proofs.Ytlkhfgkgngcakaa
open Go.RowKit
set_option linter.unusedVariables false
set_option maxHeartbeats 1000000 in
set_option maxRecDepth 100000 in
theorem rput_go (n : Int) (W : World) (h0 : -9223372036854775808 ≤ n) (h1 : n ≤ 9223372036854775807) (u : Nat) (hcl : u < 18446744073709551616) (hu : (n < 0 ∧ -(n + 1) * 2 + 1 = u) ∨ (0 ≤ n ∧ n * 2 = u)) :
    Calls Try.prog 45 #[.int .i64 n] W (Good W (.string ⟨(enc u).toArray⟩)) := by
  obtain ⟨i0, hi, hz0, hz1, hz2⟩ := info_parts info5
  have hst := Lib.hid (RPutAt.start W hcl)
  rcases hu with ⟨hn, hu⟩ | ⟨hn, hu⟩
  all_goals
    first
    | (have hd : decide (n < 0) = true := decide_eq_true hn)
    | (have hd : decide (n < 0) = false := decide_eq_false (by omega))
    go_enter Try.func45, Try.ntmps45
    go_wp2
    go_loopw [4, 5] (fun x v wr => ∃ (c : Nat) (pre : List UInt8), x = .int .u64 c ∧ RPutAt W u c pre v wr) (fun x _ _ => (intOf x).toNat)
    case atStart => exact ⟨u, [], rfl, hst.out⟩
    case round =>
      obtain ⟨c, pre, rfl, hR⟩ := hrel
      have hlen := hR.len
      have hbs := hR.bel.size
      have hbel := hR.bel
      have hrow := hR.row
      clear hu hcl hst h0 h1
      by_cases hc : c < 128
      · have hfin : Hid (enc u = pre ++ [UInt8.ofNat c]) := Lib.hid (by
          rw [← hR.all]
          obtain ⟨f, hf⟩ : ∃ f, 10 - pre.length = f + 1 := ⟨9 - pre.length, by omega⟩
          rw [hf, encF, if_pos hc])
        clear hR
        go_wp2_with (at_builtin; refine wpList_append_bytes _ rfl (.tmp 27) (.tmp 30) _ rfl W.heap.size 5 i0 Try.underlying100 hi hz0 hz1 hz2 _ pre rfl (hrow.alloc _) ⟨wr.heap.size, 0, none⟩ 1 1 [UInt8.ofNat c] rfl rfl ?c1 ?c2 ?c3 ?_)
        case c1 => exact fun j y hy => append_one wr 5 c j y hy (by omega)
        case c2 => omega
        case c3 => simp; omega
        intro v1 w1 hv1 hg1 ho1
        have hbw1 : Below W.heap.size W w1 := (hbel.alloc hbs _).grown hg1 (by simp; omega) (fun k hk => (hrow.lt k hk).1)
        have htext := hv1.text (P := Try.prog) 100 9 Try.underlying100 Try.underlying5 Try.underlying9
        clear ho1 hg1 hv1
        go_wp2
        go_ret
        exact ⟨by rw [hfin.out]; rfl, hbw1⟩
      · have hS := fun v1 w1 hv hb => hR.step (v1 := v1) (w1 := w1) hc hv hb
        have HS := Lib.hid hS
        have hct : (c : Int) % 128 = ((c % 128 : Nat) : Int) := by omega
        have hdv : (c : Int) / 128 = ((c / 128 : Nat) : Int) := by omega
        have hlt : c / 128 < c := by omega
        have hdb : c / 128 ≤ 18446744073709551615 := by have := hR.small; omega
        have hy : c % 128 < 128 := Nat.mod_lt _ (by decide)
        have hz : ((c % 128 : Nat) : Int) + 128 = ((c % 128 + 128 : Nat) : Int) := by omega
        have hzl : c % 128 + 128 < 256 := by omega
        clear hS hR
        generalize c % 128 + 128 = z at HS hz hzl
        generalize c % 128 = y at hz hct hy
        generalize c / 128 = d at HS hdv hlt hdb
        go_wp2_with (at_builtin; refine wpList_append_bytes _ rfl (.tmp 18) (.tmp 23) _ rfl W.heap.size 5 i0 Try.underlying100 hi hz0 hz1 hz2 _ pre rfl (hrow.alloc _) ⟨wr.heap.size, 0, none⟩ 1 1 [UInt8.ofNat z] rfl rfl ?c1 ?c2 ?c3 ?_)
        case c1 => exact fun j y hy => append_one wr 5 z j y hy hzl
        case c2 => omega
        case c3 => simp; omega
        intro v1 w1 hv1 hg1 ho1
        have hbw1 : Below W.heap.size W w1 := (hbel.alloc hbs _).grown hg1 (by simp; omega) (fun k hk => (hrow.lt k hk).1)
        have HR := Lib.hid (HS.out v1 w1 hv1 hbw1)
        clear ho1 hg1 hv1
        go_wp2
        go_roundw
        case rel => exact ⟨d, _, rfl, HR.out⟩
        case measure => simp [intOf]; omega
theorem rput_c (n : Int) (W : World) (h0 : -9223372036854775808 ≤ n) (h1 : n ≤ 9223372036854775807) :
    Calls Try.prog 45 #[.int .i64 n] W (Good W (.string ⟨(putL n).toArray⟩)) := by
  have hc := code_lt h0 h1
  have h := rput_go n W h0 h1 (code n) hc (by
    unfold code
    by_cases hn : n < 0
    · rw [if_pos hn]; left; exact ⟨hn, by omega⟩
    · rw [if_neg hn]; right; exact ⟨by omega, by omega⟩)
  exact h
end Go.Proofs.Ytlkhfgkgngcakaa
/- The document's Get by one contract, for every text of at most 2 to the 60 bytes. -/
namespace Go.Proofs.Ytlkhfgkgngcakaa
open Go.RowKit
set_option linter.unusedVariables false
set_option maxHeartbeats 1000000 in
set_option maxRecDepth 100000 in
theorem rget_in (s : ByteArray) (a : Nat) (W : World) (hs : s.size ≤ 1152921504606846976) (ha : a ≤ s.size) :
    Calls Try.prog 43 #[.string s, .int .i64 a] W (Good W (Tri (getT a (s.data.toList.drop a)).1 (getT a (s.data.toList.drop a)).2.1 (getT a (s.data.toList.drop a)).2.2)) := by
  have hlen : Hid ((s.data.toList.drop a).length = s.size - a) := Lib.hid (by simp)
  have hst : Hid (RGetAt (s.data.toList.drop a) 0) := Lib.hid ⟨by omega, by omega, fun b hb => by simp at hb⟩
  have hd1 : decide ((a : Int) < 0) = false := decide_eq_false (by omega)
  have hd2 : decide ((s.size : Int) < (a : Int)) = false := decide_eq_false (by omega)
  have hd3 : decide (s.size < a) = false := decide_eq_false (by omega)
  go_enter Try.func43, Try.ntmps43
  go_wp2
  go_loop [7] (fun x => ∃ k : Nat, x = .int .i64 k ∧ RGetAt (s.data.toList.drop a) k) (fun x => 10 - (intOf x).toNat)
  case atStart => exact ⟨0, rfl, hst.out⟩
  case round =>
    obtain ⟨k, rfl, hR⟩ := hrel
    have hk10 := hR.le
    have hkl := hR.len
    by_cases hgo : k < 10 ∧ a + k < s.size
    · obtain ⟨hk, hak⟩ := hgo
      have hat := drop_at hak
      have hb8 := toNat_lt s[a + k]
      by_cases hbig : 128 ≤ s[a + k].toNat
      · have HS := Lib.hid (hR.step hat hk hbig)
        clear hR hat hkl
        go_wp2
        go_round
        case rel => exact ⟨k + 1, by go_num, HS.out⟩
        case measure => simp [intOf]; omega
      · clear hkl
        have h10 : ((k : Int) == 10) = false := by rw [beq_eq_false_iff_ne]; omega
        have hge : decide ((s.size : Int) ≤ (a : Int) + (k : Int)) = false := decide_eq_false (by omega)
        have hge' : decide (s.size ≤ a + k) = false := decide_eq_false (by omega)
        have hbs : ((s.data.toList.drop a).take (k + 1))[k]? = some s[a + k] := by rw [List.getElem?_take, if_pos (by omega)]; exact hat
        have hT := getT_at (a := a) hR.going hk hat (by omega)
        have hbl : ((s.data.toList.drop a).take (k + 1)).length = k + 1 := by
          have := (List.getElem?_eq_some_iff.1 hat).1
          rw [List.length_take]; omega
        have hsub : Hid ((s.extract a (a + k + 1)).data.toList = (s.data.toList.drop a).take (k + 1)) := Lib.hid (by simp [Nat.add_assoc])
        have hgk := hR.going
        clear hR
        go_wp2
        go_loop [8, 9] (fun x i => ∃ j : Nat, j ≤ k + 1 ∧ i = .int .i64 ((j : Int) - 1) ∧ x = .int .u64 (val (((s.data.toList.drop a).take (k + 1)).drop j) % 18446744073709551616 : Nat)) (fun _ i => (intOf i + 1).toNat)
        case atStart => exact ⟨k + 1, by omega, by go_num, by rw [List.drop_of_length_le (by omega)]; rfl⟩
        case round =>
          obtain ⟨j, hj, rfl, rfl⟩ := hrel
          by_cases hj0 : 0 < j
          · obtain ⟨j, rfl⟩ : ∃ m, j = m + 1 := ⟨j - 1, by omega⟩
            have haj : a + j < s.size := by omega
            have hbj : ((s.data.toList.drop a).take (k + 1))[j]? = some s[a + j] := by rw [List.getElem?_take, if_pos (by omega)]; exact drop_at haj
            have hv := val_down hbj
            have hb8 := toNat_lt s[a + j]
            have hx : s[a + j].toNat % 128 < 128 := Nat.mod_lt _ (by decide)
            have hxi : (s[a + j].toNat : Int) % 128 = ((s[a + j].toNat % 128 : Nat) : Int) := by omega
            have HV := Lib.hid hv
            clear hv hbj
            generalize val (((s.data.toList.drop a).take (k + 1)).drop (j + 1)) % 18446744073709551616 = U at *
            generalize s[a + j].toNat % 128 = x at *
            obtain ⟨U', HU⟩ : ∃ y, Hid (y = val (((s.data.toList.drop a).take (k + 1)).drop j) % 18446744073709551616) := ⟨_, Lib.hid rfl⟩
            have hsum : IntKind.u64.wrap (IntKind.u64.wrap ((U : Int) * 128) + (x : Int)) = (((U * 128 + x) % 18446744073709551616 : Nat) : Int) := by
              simp [IntKind.wrap, IntKind.bits, IntKind.signed]
            rw [HV.out, ← HU.out] at hsum
            go_wp2
            go_round
            case rel => exact ⟨j, by omega, rfl, by rw [HU.out]⟩
            case measure => simp [intOf]
          · obtain rfl : j = 0 := by omega
            rw [List.drop_zero]
            have hV : val ((s.data.toList.drop a).take (k + 1)) % 18446744073709551616 < 18446744073709551616 := Nat.mod_lt _ (by decide)
            have hse := short_enc ((s.data.toList.drop a).take k) s[a + k] hgk (by omega) (by rw [List.length_take]; omega)
            rw [← take_one hat] at hse
            have hkl : ((s.data.toList.drop a).take k).length = k := by
              have := (List.getElem?_eq_some_iff.1 hat).1
              rw [List.length_take]; omega
            rw [hkl] at hse
            rw [hse] at hT
            generalize val ((s.data.toList.drop a).take (k + 1)) % 18446744073709551616 = V at *
            have hput : putL (dec V) = enc V := by unfold putL; rw [code_dec]
            have hdr := dec_range hV
            have c0 : ∀ w, Calls Try.prog 45 #[.int .i64 (dec V)] w (Good w (.string ⟨(putL (dec V)).toArray⟩)) := fun w => rput_c (dec V) w hdr.1 hdr.2
            rw [hput] at c0
            have hh : (V : Int) / 2 = ((V / 2 : Nat) : Int) := by omega
            have hl2 : V / 2 ≤ 9223372036854775807 := by omega
            clear hbs hat hse hput hdr hV
            by_cases hcmp : enc V = (s.data.toList.drop a).take (k + 1)
            · have hE : (⟨(enc V).toArray⟩ : ByteArray) = s.extract a (a + k + 1) := by
                rw [hcmp, ← hsub.out]
              rw [hE] at c0
              have hT1 : Hid (getT a (s.data.toList.drop a) = (dec V, (a : Int) + (k : Int) + 1, 0)) := Lib.hid (by rw [hT, if_pos (by simpa using hcmp)])
              clear hT
              by_cases hodd : V % 2 = 1
              · have e1 : ((V : Int) % 2 == 1) = true := by simp; omega
                have HD := Lib.hid (dec_odd hodd)
                rw [HD.out] at c0
                clear hodd hcmp hE
                generalize V / 2 = h at *
                go_wp2
                have q1 : IntKind.i64.wrap ((a : Int) + (k : Int)) = (a : Int) + (k : Int) := IntWalk.i64_in _ (by omega)
                have q2 : IntKind.i64.wrap ((a : Int) + (k : Int) + 1) = (a : Int) + (k : Int) + 1 := IntWalk.i64_in _ (by omega)
                have q3 : (a : Int) ≤ (a : Int) + (k : Int) + 1 := by omega
                have q4 : (a : Int) + (k : Int) + 1 ≤ (s.size : Int) := by omega
                have q5 : ((a : Int) + (k : Int) + 1).toNat = a + k + 1 := by omega
                go_region_with (go_at_call 45; refine (c0 _).mono ?_; rintro e w1 ⟨rfl, hb⟩)
                clear q1 q2 q5
                go_wp2
                go_ret3
                refine ⟨?_, hb.os, hb.tape, hb.output, hb.size, hb.block⟩
                rw [hT1.out, HD.out, Int.add_assoc]
                rfl
              · have e1 : ((V : Int) % 2 == 1) = false := by rw [beq_eq_false_iff_ne]; omega
                have HD := Lib.hid (dec_even hodd)
                rw [HD.out] at c0
                clear hodd hcmp hE
                generalize V / 2 = h at *
                go_wp2
                have q1 : IntKind.i64.wrap ((a : Int) + (k : Int)) = (a : Int) + (k : Int) := IntWalk.i64_in _ (by omega)
                have q2 : IntKind.i64.wrap ((a : Int) + (k : Int) + 1) = (a : Int) + (k : Int) + 1 := IntWalk.i64_in _ (by omega)
                have q3 : (a : Int) ≤ (a : Int) + (k : Int) + 1 := by omega
                have q4 : (a : Int) + (k : Int) + 1 ≤ (s.size : Int) := by omega
                have q5 : ((a : Int) + (k : Int) + 1).toNat = a + k + 1 := by omega
                go_region_with (go_at_call 45; refine (c0 _).mono ?_; rintro e w1 ⟨rfl, hb⟩)
                clear q1 q2 q5
                go_wp2
                go_ret3
                refine ⟨?_, hb.os, hb.tape, hb.output, hb.size, hb.block⟩
                rw [hT1.out, HD.out, Int.add_assoc]
                rfl
            · have hE : (⟨(enc V).toArray⟩ : ByteArray) ≠ s.extract a (a + k + 1) := fun e => hcmp (by rw [← hsub.out, ← e])
              have hne := str_ne hE
              generalize (⟨(enc V).toArray⟩ : ByteArray) = r at *
              have hT1 : Hid (getT a (s.data.toList.drop a) = (0, 0, 3)) := Lib.hid (by rw [hT, if_neg (by simpa using hcmp)])
              clear hT hE
              by_cases hodd : V % 2 = 1
              · have e1 : ((V : Int) % 2 == 1) = true := by simp; omega
                have HD := Lib.hid (dec_odd hodd)
                rw [HD.out] at c0
                clear hodd hcmp
                generalize V / 2 = h at *
                go_wp2
                have q1 : IntKind.i64.wrap ((a : Int) + (k : Int)) = (a : Int) + (k : Int) := IntWalk.i64_in _ (by omega)
                have q2 : IntKind.i64.wrap ((a : Int) + (k : Int) + 1) = (a : Int) + (k : Int) + 1 := IntWalk.i64_in _ (by omega)
                have q3 : (a : Int) ≤ (a : Int) + (k : Int) + 1 := by omega
                have q4 : (a : Int) + (k : Int) + 1 ≤ (s.size : Int) := by omega
                have q5 : ((a : Int) + (k : Int) + 1).toNat = a + k + 1 := by omega
                go_region_with (go_at_call 45; refine (c0 _).mono ?_; rintro e w1 ⟨rfl, hb⟩)
                clear q1 q2 q5
                go_wp2
                go_ret3
                refine ⟨?_, hb.os, hb.tape, hb.output, hb.size, hb.block⟩
                rw [hT1.out]
                rfl
              · have e1 : ((V : Int) % 2 == 1) = false := by rw [beq_eq_false_iff_ne]; omega
                have HD := Lib.hid (dec_even hodd)
                rw [HD.out] at c0
                clear hodd hcmp
                generalize V / 2 = h at *
                go_wp2
                have q1 : IntKind.i64.wrap ((a : Int) + (k : Int)) = (a : Int) + (k : Int) := IntWalk.i64_in _ (by omega)
                have q2 : IntKind.i64.wrap ((a : Int) + (k : Int) + 1) = (a : Int) + (k : Int) + 1 := IntWalk.i64_in _ (by omega)
                have q3 : (a : Int) ≤ (a : Int) + (k : Int) + 1 := by omega
                have q4 : (a : Int) + (k : Int) + 1 ≤ (s.size : Int) := by omega
                have q5 : ((a : Int) + (k : Int) + 1).toNat = a + k + 1 := by omega
                go_region_with (go_at_call 45; refine (c0 _).mono ?_; rintro e w1 ⟨rfl, hb⟩)
                clear q1 q2 q5
                go_wp2
                go_ret3
                refine ⟨?_, hb.os, hb.tape, hb.output, hb.size, hb.block⟩
                rw [hT1.out]
                rfl
    · by_cases h10 : k = 10
      · have hT := Lib.hid (getT_form (a := a) (l := s.data.toList.drop a) (by have := hR.going; rw [h10] at this; exact this) (by rw [← h10]; exact hkl))
        subst h10
        clear hR hkl
        go_wp2
        go_ret3
        exact ⟨by rw [hT.out]; rfl, Below.refl _ _⟩
      · have hT := Lib.hid (getT_cut (a := a) (l := s.data.toList.drop a) (by have := hR.going; rw [List.take_of_length_le (by rw [hlen.out]; omega)] at this; exact this) (by rw [hlen.out]; omega))
        have e10 : ((k : Int) == 10) = false := by rw [beq_eq_false_iff_ne]; omega
        have g1 : ¬ a + k < s.size := by omega
        have g2 : k < 10 := by omega
        clear hR hkl
        go_wp2
        go_ret3
        exact ⟨by rw [hT.out]; rfl, Below.refl _ _⟩
theorem rget_out (s : ByteArray) (at_ : Int) (W : World) (hs : s.size ≤ 1152921504606846976) (ha : at_ < 0 ∨ (s.size : Int) < at_) :
    Calls Try.prog 43 #[.string s, .int .i64 at_] W (Good W (Tri 0 0 1)) := by
  rcases ha with ha | ha
  · go_enter Try.func43, Try.ntmps43
    go_wp2
    go_ret3
    exact ⟨rfl, Below.refl _ _⟩
  · have hd : decide ((s.size : Int) < at_) = true := decide_eq_true ha
    go_enter Try.func43, Try.ntmps43
    go_wp2
    go_ret3
    exact ⟨rfl, Below.refl _ _⟩
theorem rget_c (s : ByteArray) (p : Int) (W : World) (hs : s.size ≤ 1152921504606846976) :
    Calls Try.prog 43 #[.string s, .int .i64 p] W (Good W (Tri (getG s p).1 (getG s p).2.1 (getG s p).2.2)) := by
  by_cases h : p < 0 ∨ (s.size : Int) < p
  · have e : getG s p = (0, 0, 1) := by unfold getG; rw [if_pos h]
    rw [e]
    exact rget_out s p W hs h
  · obtain ⟨a, rfl⟩ : ∃ a : Nat, p = a := ⟨p.toNat, by omega⟩
    have e : getG s a = getT a (s.data.toList.drop a) := by unfold getG; rw [if_neg h]; rfl
    rw [e]
    exact rget_in s a W hs (by omega)
end Go.Proofs.Ytlkhfgkgngcakaa
/- The document's Take and Text by contracts, for every text of at most 2 to the 48 bytes. -/
namespace Go.Proofs.Ytlkhfgkgngcakaa
open Go.RowKit
set_option linter.unusedVariables false
set_option maxHeartbeats 1000000 in
set_option maxRecDepth 100000 in
theorem rtake_c (s : ByteArray) (p most : Int) (W : World) (hs : s.size ≤ 1152921504606846976) :
    Calls Try.prog 42 #[.string s, .int .i64 p, .int .i64 most] W (Good W (Sri (takeG s p most).1 (takeG s p most).2.1 (takeG s p most).2.2)) := by
  have hg := rget_c s p W hs
  have hok := getG_ok (s := s) (p := p)
  have hT : Hid (takeG s p most = if (getG s p).2.2 ≠ 0 then (⟨#[]⟩, 0, (getG s p).2.2) else if (getG s p).1 < 0 ∨ most < (getG s p).1 then (⟨#[]⟩, 0, 3) else if (s.size : Int) - (getG s p).2.1 < (getG s p).1 then (⟨#[]⟩, 0, 2) else (s.extract (getG s p).2.1.toNat ((getG s p).2.1 + (getG s p).1).toNat, (getG s p).2.1 + (getG s p).1, 0)) := Lib.hid rfl
  generalize (getG s p).1 = n at *
  generalize (getG s p).2.1 = q at *
  generalize (getG s p).2.2 = er at *
  unfold Tri Good at hg
  by_cases he : er = 0
  · obtain ⟨k, hk, _, hks, hn0, hn1⟩ := hok he
    have hT1 := hT.out
    rw [if_neg (by simpa using he)] at hT1
    subst hk
    subst he
    by_cases h1 : n < 0
    · rw [if_pos (.inl h1)] at hT1
      have H1 := Lib.hid hT1
      clear hT1 hT hok
      go_enter Try.func42, Try.ntmps42
      go_wp2_with ((with_reducible refine hg.mono ?_); rintro e w' ⟨rfl, hb⟩)
      go_ret3
      exact ⟨by rw [H1.out]; rfl, hb⟩
    · obtain ⟨m, rfl⟩ : ∃ m : Nat, n = m := ⟨n.toNat, by omega⟩
      have d1 : decide ((m : Int) < 0) = false := decide_eq_false (by omega)
      by_cases h2 : most < (m : Int)
      · rw [if_pos (.inr h2)] at hT1
        have H1 := Lib.hid hT1
        clear hT1 hT hok
        go_enter Try.func42, Try.ntmps42
        go_wp2_with ((with_reducible refine hg.mono ?_); rintro e w' ⟨rfl, hb⟩)
        go_ret3
        exact ⟨by rw [H1.out]; rfl, hb⟩
      · rw [if_neg (by omega)] at hT1
        have d2 : decide (most < (m : Int)) = false := decide_eq_false h2
        by_cases h3 : (s.size : Int) - (k : Int) < (m : Int)
        · rw [if_pos h3] at hT1
          have H1 := Lib.hid hT1
          clear hT1 hT hok
          go_enter Try.func42, Try.ntmps42
          go_wp2_with ((with_reducible refine hg.mono ?_); rintro e w' ⟨rfl, hb⟩)
          go_ret3
          exact ⟨by rw [H1.out]; rfl, hb⟩
        · rw [if_neg h3] at hT1
          have H1 : Hid (takeG s p most = (s.extract k (k + m), ((k + m : Nat) : Int), 0)) := Lib.hid (by rw [hT1]; rfl)
          have g1 : k + m ≤ s.size := by omega
          have g2 : (k : Int) + (m : Int) ≤ (s.size : Int) := by omega
          have hsl : ∀ w, (Instr.slice 9 (.string s) (some (.int .i64 (k : Int))) (some (.int .i64 ((k : Int) + (m : Int)))) none).run Try.prog w = .ok (.string (s.extract k (k + m))) w := fun w => by
            rw [show (k : Int) + (m : Int) = ((k + m : Nat) : Int) by omega]
            exact slice_str w 9 s k (k + m) Try.underlying9 (by omega) g1
          clear hT1 hT hok
          go_enter Try.func42, Try.ntmps42
          go_wp2_with ((with_reducible refine hg.mono ?_); rintro e w' ⟨rfl, hb⟩)
          go_ret3
          exact ⟨by rw [H1.out]; rfl, hb⟩
  · have H1 : Hid (takeG s p most = (⟨#[]⟩, 0, er)) := Lib.hid (by rw [hT.out, if_pos he])
    have e1 : (er == 0) = false := by rw [beq_eq_false_iff_ne]; exact he
    have e2 : (er != 0) = true := by simpa using he
    clear hT hok
    go_enter Try.func42, Try.ntmps42
    go_wp2_with ((with_reducible refine hg.mono ?_); rintro e w' ⟨rfl, hb⟩)
    go_ret3
    exact ⟨by rw [H1.out]; rfl, hb⟩
theorem rtext_c (s : ByteArray) (W : World) (hs : s.size ≤ 281474976710656) : Calls Try.prog 44 #[.string s] W (Good W (.string (textG s))) := by
  have hp := rput_c s.size W (code_len hs).1 (code_len hs).2
  have hl := put_size s.size
  have hx : Hid (textG s = ⟨(putL s.size).toArray⟩ ++ s) := Lib.hid rfl
  generalize (⟨(putL s.size).toArray⟩ : ByteArray) = r at *
  have hadd : ∀ w, (Op.stringOp .add r s).run Try.prog w = .ok (.string (r ++ s)) w := fun w => run_string_add_sum (w := w) r s (by omega)
  go_enter Try.func44, Try.ntmps44
  go_wp2_with ((with_reducible refine hp.mono ?_); rintro e w' ⟨rfl, hb⟩)
  go_ret
  exact ⟨by rw [hx.out]; rfl, hb⟩
end Go.Proofs.Ytlkhfgkgngcakaa
