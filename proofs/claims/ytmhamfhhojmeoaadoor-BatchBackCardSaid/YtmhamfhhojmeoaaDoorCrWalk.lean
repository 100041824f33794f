/- The two sums of the program's package crcc and of the document's answer, each by one contract: for every sum below 2 to the 32 and every text. Condition: the package's table reads as its text lays it. -/
import Derived.Test.YtmhamfhhojmeoaaDoorProg
import Derived.Test.YtmhamfhhojmeoaaDoorCrMath
import Derived.WalkKit
import Derived.ProofKit
import Derived.LoopTactic
import Derived.Lib.Hide
namespace Go.Proofs.YtmhamfhhojmeoaaDoor.CR
open Go.RowKit
theorem xor_cast {a b : Nat} (ha : a < 4294967296) (hb : b < 4294967296) : bits .xor .u32 (a : Int) (b : Int) = ((a ^^^ b : Nat) : Int) := u32_xor_nat a b ha hb
theorem compl_cast {a : Nat} (ha : a < 4294967296) : bits .xor .u32 IntKind.u32.max (a : Int) = ((4294967295 ^^^ a : Nat) : Int) := u32_xor_nat 4294967295 a (by decide) ha
theorem and15_cast {a : Nat} (ha : a < 4294967296) : bits .and .u32 (a : Int) 15 = ((a % 16 : Nat) : Int) := by
  rw [show (15 : Int) = ((15 : Nat) : Int) from rfl, u32_and_nat a 15 ha (by decide), nat_mask4]
theorem step_cast {a : Nat} (ha : a < 4294967296) : bits .xor .u32 ((a : Int) / 16) ((nib (a % 16) : Nat) : Int) = ((step4 a : Nat) : Int) := by
  rw [show (a : Int) / 16 = ((a / 16 : Nat) : Int) by omega]
  exact u32_xor_nat _ _ (by omega) (nib_lt _)
set_option maxHeartbeats 400000 in
theorem extend_any (sum : Nat) (s : ByteArray) (w : World) (hs : s.size ≤ maxLen) (h1 : sum < 4294967296) (hc : ∀ i, i < 16 → w.cell? ⟨0, i, none⟩ = some (.int .u32 (nib i))):
    Calls Tryd.prog 45 #[.int .u32 sum, .string s] w fun e w' => e = .returned (.int .u32 ((4294967295 ^^^ crc (4294967295 ^^^ sum) s.data.toList : Nat) : Int)) ∧ w = w' := by
  unfold maxLen at hs
  have e0 := compl_cast h1
  generalize hr0 : 4294967295 ^^^ sum = r0 at e0
  have hr0' : r0 < 4294967296 := by rw [← hr0]; exact xor_lt32 (by decide) h1
  go_enter Tryd.func45, Tryd.ntmps45
  go_wp2
  go_loop [5, 11] (fun r i => ∃ k : Nat, k ≤ s.size ∧ i = .int .i64 k ∧ r = .int .u32 (crc r0 (s.data.toList.take k) : Nat)) (fun _ i => s.size - (intOf i).toNat)
  case atStart => exact ⟨0, Nat.zero_le _, rfl, rfl⟩
  case round =>
    obtain ⟨k, hk, rfl, rfl⟩ := hrel
    by_cases hlt : k < s.size
    · have hts := Lib.hid (crc_snoc r0 (s.data.toList.take k) s[k])
      have htk := Lib.hid (take_snoc s k hlt)
      have hr := crc_lt (s.data.toList.take k) hr0'
      generalize crc r0 (s.data.toList.take k) = r at hr hts ⊢
      have hb := byte_lt s[k]
      have hb' : ((s[k].toNat : Nat) : Int) % 4294967296 = ((s[k].toNat : Nat) : Int) := by omega
      have e1 := xor_cast (b := s[k].toNat) hr (by omega)
      have hr1 : r ^^^ s[k].toNat < 4294967296 := xor_lt32 hr (by omega)
      have HR : Hid (step8 r s[k] = step4 (step4 (r ^^^ s[k].toNat))) := Lib.hid rfl
      generalize r ^^^ s[k].toNat = r1 at e1 hr1 HR
      have e2 := and15_cast hr1
      have e3 := step_cast hr1
      have hr2 := step4_lt hr1
      generalize step4 r1 = r2 at e3 hr2 HR
      have e4 := and15_cast hr2
      have e5 := step_cast hr2
      generalize step4 r2 = r3 at e5 HR
      have b1 : r1 % 16 < 16 := by omega
      have b2 : r2 % 16 < 16 := by omega
      go_wp2
      go_round
      case rel => exact ⟨k + 1, by omega, by go_num, by rw [htk.out, hts.out, HR.out]⟩
      case measure => simp [intOf]; omega
    · have hr := crc_lt s.data.toList hr0'
      have e1 := compl_cast hr
      have hk' : s.data.toList.take k = s.data.toList := List.take_of_length_le (by simp; omega)
      go_wp2
      go_ret
      exact ⟨rfl, rfl⟩
theorem ref_any (sum : Nat) (s : ByteArray) (w : World) (hs : s.size ≤ maxLen) (h1 : sum < 4294967296) :
    Calls Tryd.prog 49 #[.int .u32 sum, .string s] w fun e w' => e = .returned (.int .u32 ((4294967295 ^^^ crc (4294967295 ^^^ sum) s.data.toList : Nat) : Int)) ∧ w = w' := by
  unfold maxLen at hs
  have e0 := compl_cast h1
  generalize hr0 : 4294967295 ^^^ sum = r0 at e0
  have hr0' : r0 < 4294967296 := by rw [← hr0]; exact xor_lt32 (by decide) h1
  go_enter Tryd.func49, Tryd.ntmps49
  go_wp2
  go_loop [5, 6] (fun r i => ∃ k : Nat, k ≤ s.size ∧ i = .int .i64 k ∧ r = .int .u32 (crc r0 (s.data.toList.take k) : Nat)) (fun _ i => s.size - (intOf i).toNat)
  case atStart => exact ⟨0, Nat.zero_le _, rfl, rfl⟩
  case round =>
    obtain ⟨k, hk, rfl, rfl⟩ := hrel
    by_cases hlt : k < s.size
    · have hts := Lib.hid (crc_snoc r0 (s.data.toList.take k) s[k])
      have htk := Lib.hid (take_snoc s k hlt)
      have hr := crc_lt (s.data.toList.take k) hr0'
      generalize crc r0 (s.data.toList.take k) = r at hr hts ⊢
      have hb := byte_lt s[k]
      have h8 := Lib.hid (step8_rb r s[k])
      go_wp2
      go_loop [5, 7] (fun x i => ∃ j : Nat, j ≤ 8 ∧ i = .int .i64 j ∧ x = .int .u32 (rb s[k].toNat r j : Nat)) (fun _ i => 8 - (intOf i).toNat)
      case atStart => exact ⟨0, Nat.zero_le _, rfl, rfl⟩
      case round =>
        obtain ⟨j, hj, rfl, rfl⟩ := hrel
        have hq := rb_lt s[k].toNat hr j
        have hrb : Hid (rb s[k].toNat r (j + 1) = lf (rb s[k].toNat r j ^^^ (s[k].toNat / 2 ^ j % 2))) := Lib.hid rfl
        by_cases hl8 : j < 8
        · generalize rb s[k].toNat r j = q at hq hrb ⊢
          have e1 : bits .xor .u32 (q : Int) ((s[k].toNat : Int) / 2 ^ j % 2) = ((q ^^^ (s[k].toNat / 2 ^ j % 2) : Nat) : Int) := by
            rw [show (s[k].toNat : Int) / 2 ^ j % 2 = ((s[k].toNat / 2 ^ j % 2 : Nat) : Int) by simp]
            exact xor_cast hq (bit_lt _ _)
          have hx : q ^^^ (s[k].toNat / 2 ^ j % 2) < 4294967296 := xor_lt32 hq (bit_lt _ _)
          generalize q ^^^ (s[k].toNat / 2 ^ j % 2) = x at e1 hx hrb
          by_cases hodd : x % 2 = 1
          · have hlf : Hid (lf x = x / 2 ^^^ 2197175160) := Lib.hid (if_pos hodd)
            have e2 : bits .xor .u32 ((x : Int) / 2) 2197175160 = ((x / 2 ^^^ 2197175160 : Nat) : Int) := by
              rw [show (x : Int) / 2 = ((x / 2 : Nat) : Int) by omega]
              exact xor_cast (by omega) (by decide)
            have e3 : (((x : Int) % 2) == 1) = true := by simp; omega
            clear hodd
            go_wp2
            go_round
            case rel => exact ⟨j + 1, by omega, by go_num, by rw [hrb.out, hlf.out]⟩
            case measure => simp [intOf]; omega
          · have hlf : Hid (lf x = x / 2) := Lib.hid (if_neg hodd)
            have e3 : (((x : Int) % 2) == 1) = false := by simp; omega
            clear hodd
            go_wp2
            go_round
            case rel => exact ⟨j + 1, by omega, by go_num, by rw [hrb.out, hlf.out]; congr 1⟩
            case measure => simp [intOf]; omega
        · obtain rfl : j = 8 := by omega
          have H8 : Hid (rb s[k].toNat r 8 = crc r0 (s.data.toList.take (k + 1))) := Lib.hid (by rw [htk.out, hts.out, h8.out])
          generalize rb s[k].toNat r 8 = y at H8 ⊢
          clear hrb hq
          go_wp2
          go_round
          case rel => exact ⟨k + 1, by omega, by go_num, by rw [H8.out]⟩
          case measure => simp [intOf]; omega
    · have hr := crc_lt s.data.toList hr0'
      have e1 := compl_cast hr
      have hk' : s.data.toList.take k = s.data.toList := List.take_of_length_le (by simp; omega)
      go_wp2
      go_ret
      exact ⟨rfl, rfl⟩
/-- What the table's cells hold. -/
def Tab (w : World) : Prop := ∀ i, i < 16 → w.cell? ⟨0, i, none⟩ = some (.int .u32 (nib i))
theorem ext_c (sum : Nat) (s : ByteArray) (w : World) (hs : s.size ≤ maxLen) (h1 : sum < 4294967296) (hc : Tab w) :
    Calls Tryd.prog 45 #[.int .u32 sum, .string s] w fun e w' => e = .returned (.int .u32 (ext sum s.data.toList : Nat)) ∧ w = w' := extend_any sum s w hs h1 hc
theorem rext_c (sum : Nat) (s : ByteArray) (w : World) (hs : s.size ≤ maxLen) (h1 : sum < 4294967296) :
    Calls Tryd.prog 49 #[.int .u32 sum, .string s] w fun e w' => e = .returned (.int .u32 (ext sum s.data.toList : Nat)) ∧ w = w' := ref_any sum s w hs h1
theorem sum_c (s : ByteArray) (w : World) (hs : s.size ≤ maxLen) (hc : Tab w) :
    Calls Tryd.prog 25 #[.string s] w fun e w' => e = .returned (.int .u32 (ext 0 s.data.toList : Nat)) ∧ w = w' := by
  go_enter Tryd.func25, Tryd.ntmps25
  go_wp2_with (go_at_call 45; refine (ext_c 0 s _ hs (by decide) hc).mono ?_; rintro e w' ⟨rfl, rfl⟩)
  go_ret
  exact ⟨rfl, rfl⟩
theorem rsum_c (s : ByteArray) (w : World) (hs : s.size ≤ maxLen) :
    Calls Tryd.prog 28 #[.string s] w fun e w' => e = .returned (.int .u32 (ext 0 s.data.toList : Nat)) ∧ w = w' := by
  go_enter Tryd.func28, Tryd.ntmps28
  go_wp2_with (go_at_call 49; refine (rext_c 0 s _ hs (by decide)).mono ?_; rintro e w' ⟨rfl, rfl⟩)
  go_ret
  exact ⟨rfl, rfl⟩
end Go.Proofs.YtmhamfhhojmeoaaDoor.CR
