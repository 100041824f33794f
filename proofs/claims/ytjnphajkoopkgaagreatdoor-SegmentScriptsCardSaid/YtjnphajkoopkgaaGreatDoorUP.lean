/- Merged texts. What each proves is told at its head. -/
import Derived.Laws.BitsAllLaws
import Derived.Test.YtjnphajkoopkgaaGreatDoorProg
import Derived.WalkKit
import Derived.ProofKit
import Derived.LoopTactic
import Derived.Lib.Hide
import Derived.Test.YtjnphajkoopkgaaGreatDoorNum
import Derived.ScopeJumps
import Derived.WalkMore
import Derived.WalkLawsBesides
import Derived.IntWalk
import Derived.Deep.RegionWith
import Derived.Laws.Concat
import Derived.Laws.DeepStrings4
import Derived.Test.YtjnphajkoopkgaaGreatDoorUH
/- Plain arithmetic of the sum: the table of sixteen and the bit by bit register are one; no condition. -/
namespace Go.Proofs.YtjnphajkoopkgaaGreatDoor.CR
def nib (i : Nat) : Nat := [0, 274646895, 549293790, 820201905, 1098587580, 1361435347, 1640403810, 1905808397, 2197175160, 2460548119, 2722870694, 2987750089, 3280807620, 3553878443, 3811616794, 4084100981].getD i 0
def step4 (r : Nat) : Nat := (r / 16) ^^^ nib (r % 16)
def step8 (r : Nat) (b : UInt8) : Nat := step4 (step4 (r ^^^ b.toNat))
def crc (r : Nat) (l : List UInt8) : Nat := l.foldl step8 r
theorem nib_lt (i : Nat) : nib i < 4294967296 := by
  rcases Nat.lt_or_ge i 16 with h | h
  · have : ∀ i : Fin 16, nib i < 4294967296 := by decide
    exact this ⟨i, h⟩
  · unfold nib; rw [List.getD_eq_getElem?_getD, List.getElem?_eq_none (by simpa using h)]; decide
theorem xor_lt32 {a b : Nat} (ha : a < 4294967296) (hb : b < 4294967296) : a ^^^ b < 4294967296 := Nat.xor_lt_two_pow (n := 32) ha hb
theorem step4_lt {r : Nat} (h : r < 4294967296) : step4 r < 4294967296 := xor_lt32 (by omega) (nib_lt _)
theorem byte_lt (b : UInt8) : b.toNat < 256 := b.toNat_lt
theorem step8_lt {r : Nat} (b : UInt8) (h : r < 4294967296) : step8 r b < 4294967296 := step4_lt (step4_lt (xor_lt32 h (by have := byte_lt b; omega)))
theorem crc_lt (l : List UInt8) : ∀ {r : Nat}, r < 4294967296 → crc r l < 4294967296 := by
  induction l with
  | nil => exact fun h => h
  | cons b l ih => exact fun h => ih (step8_lt b h)
theorem crc_snoc (r : Nat) (l : List UInt8) (b : UInt8) : crc r (l ++ [b]) = step8 (crc r l) b := by simp [crc]
theorem take_snoc (s : ByteArray) (k : Nat) (h : k < s.size) : s.data.toList.take (k + 1) = s.data.toList.take k ++ [s[k]] := by
  rw [List.take_succ_eq_append_getElem (by simpa using h)]; rfl
def lf (r : Nat) : Nat := if r % 2 = 1 then (r / 2) ^^^ 2197175160 else r / 2
def rb (b r : Nat) : Nat → Nat
  | 0 => r
  | k + 1 => lf (rb b r k ^^^ (b / 2 ^ k % 2))
theorem lf_lt {r : Nat} (h : r < 4294967296) : lf r < 4294967296 := by
  unfold lf; split
  · exact xor_lt32 (by omega) (by decide)
  · omega
theorem bit_lt (b k : Nat) : b / 2 ^ k % 2 < 4294967296 := by omega
theorem rb_lt (b : Nat) {r : Nat} (h : r < 4294967296) : ∀ k, rb b r k < 4294967296
  | 0 => h
  | k + 1 => lf_lt (xor_lt32 (rb_lt b h k) (bit_lt b k))
theorem xor_two_mod (a c : Nat) : (a ^^^ 2 * c) % 2 = a % 2 := by
  have h := Nat.xor_mod_two_pow (a := a) (b := 2 * c) (n := 1)
  simpa using h
theorem xor_two_div (a c : Nat) : (a ^^^ 2 * c) / 2 = a / 2 ^^^ c := by
  have h := Nat.xor_div_two_pow (a := a) (b := 2 * c) (n := 1)
  simpa using h
theorem lf_two (a c : Nat) : lf (a ^^^ 2 * c) = lf a ^^^ c := by
  unfold lf
  rw [xor_two_mod, xor_two_div]
  split
  · rw [Nat.xor_assoc, Nat.xor_assoc, Nat.xor_comm c]
  · rfl
theorem split_pow (n b : Nat) : (b % 2 ^ n) ^^^ 2 ^ n * (b / 2 ^ n) = b := by
  have hp : 0 < 2 ^ n := Nat.two_pow_pos n
  have h1 : ((b % 2 ^ n) ^^^ 2 ^ n * (b / 2 ^ n)) / 2 ^ n = b / 2 ^ n := by
    rw [Nat.xor_div_two_pow, Nat.mul_div_cancel_left _ hp, Nat.div_eq_of_lt (Nat.mod_lt _ hp), Nat.zero_xor]
  have h2 : ((b % 2 ^ n) ^^^ 2 ^ n * (b / 2 ^ n)) % 2 ^ n = b % 2 ^ n := by
    rw [Nat.xor_mod_two_pow, Nat.mul_mod_right, Nat.mod_mod, Nat.xor_zero]
  rw [← Nat.div_add_mod ((b % 2 ^ n) ^^^ 2 ^ n * (b / 2 ^ n)) (2 ^ n), h1, h2, Nat.div_add_mod]
def lfn : Nat → Nat → Nat
  | 0, r => r
  | k + 1, r => lf (lfn k r)
theorem rb_lfn (b r : Nat) : ∀ k, rb b r k ^^^ (b / 2 ^ k) = lfn k (r ^^^ b)
  | 0 => by simp [rb, lfn]
  | k + 1 => by
    have hs := split_pow 1 (b / 2 ^ k)
    rw [Nat.pow_one, Nat.div_div_eq_div_mul, ← Nat.pow_succ] at hs
    rw [rb, lfn, ← rb_lfn b r k, ← lf_two, Nat.xor_assoc, hs]
theorem lfn_pow (a c : Nat) : ∀ k, lfn k (a ^^^ 2 ^ k * c) = lfn k a ^^^ c
  | 0 => by simp [lfn]
  | k + 1 => by
    have e : 2 ^ (k + 1) * c = 2 ^ k * (2 * c) := by rw [Nat.pow_succ, Nat.mul_assoc]
    rw [lfn, lfn, e, lfn_pow a (2 * c) k, lf_two]
theorem nib_lfn : ∀ i : Fin 16, nib i = lfn 4 i := by decide
theorem step4_lfn (r : Nat) : step4 r = lfn 4 r := by
  have h := lfn_pow (r % 2 ^ 4) (r / 2 ^ 4) 4
  rw [split_pow] at h
  rw [h, step4, nib_lfn ⟨r % 16, by omega⟩, Nat.xor_comm]
theorem lfn_add (j : Nat) (r : Nat) : ∀ k, lfn (k + j) r = lfn k (lfn j r)
  | 0 => by simp [lfn]
  | k + 1 => by rw [Nat.add_right_comm, lfn, lfn, lfn_add j r k]
theorem step8_rb (r : Nat) (b : UInt8) : step8 r b = rb b.toNat r 8 := by
  have h := rb_lfn b.toNat r 8
  rw [Nat.div_eq_of_lt (by have := b.toNat_lt; simpa using this), Nat.xor_zero] at h
  rw [h, step8, step4_lfn, step4_lfn, ← lfn_add]
/-- The sum as a number. -/
def ext (sum : Nat) (l : List UInt8) : Nat := 4294967295 ^^^ crc (4294967295 ^^^ sum) l
theorem ext_lt {sum : Nat} (h : sum < 4294967296) (l : List UInt8) : ext sum l < 4294967296 := xor_lt32 (by decide) (crc_lt l (xor_lt32 (by decide) h))
end Go.Proofs.YtjnphajkoopkgaaGreatDoor.CR
/- The two sums of the program's package crcc and of the document's answer, each by one contract: for every sum below 2 to the 32 and every text. Condition: the package's table reads as its text lays it. -/
namespace Go.Proofs.YtjnphajkoopkgaaGreatDoor.CR
open Go.RowKit
theorem xor_cast {a b : Nat} (ha : a < 4294967296) (hb : b < 4294967296) : bits .xor .u32 (a : Int) (b : Int) = ((a ^^^ b : Nat) : Int) := u32_xor_nat a b ha hb
theorem compl_cast {a : Nat} (ha : a < 4294967296) : bits .xor .u32 IntKind.u32.max (a : Int) = ((4294967295 ^^^ a : Nat) : Int) := u32_xor_nat 4294967295 a (by decide) ha
theorem and15_cast {a : Nat} (ha : a < 4294967296) : bits .and .u32 (a : Int) 15 = ((a % 16 : Nat) : Int) := by
  rw [show (15 : Int) = ((15 : Nat) : Int) from rfl, u32_and_nat a 15 ha (by decide), nat_mask4]
theorem step_cast {a : Nat} (ha : a < 4294967296) : bits .xor .u32 ((a : Int) / 16) ((nib (a % 16) : Nat) : Int) = ((step4 a : Nat) : Int) := by
  rw [show (a : Int) / 16 = ((a / 16 : Nat) : Int) by omega]
  exact u32_xor_nat _ _ (by omega) (nib_lt _)
set_option maxHeartbeats 400000 in
theorem extend_any (sum : Nat) (s : ByteArray) (w : World) (hs : s.size ≤ maxLen) (h1 : sum < 4294967296) (hc : ∀ i, i < 16 → w.cell? ⟨0, i, none⟩ = some (.int .u32 (nib i))):
    Calls Tryz.prog 112 #[.int .u32 sum, .string s] w fun e w' => e = .returned (.int .u32 ((4294967295 ^^^ crc (4294967295 ^^^ sum) s.data.toList : Nat) : Int)) ∧ w = w' := by
  unfold maxLen at hs
  have e0 := compl_cast h1
  generalize hr0 : 4294967295 ^^^ sum = r0 at e0
  have hr0' : r0 < 4294967296 := by rw [← hr0]; exact xor_lt32 (by decide) h1
  go_enter Tryz.func112, Tryz.ntmps112
  go_wp2
  go_loop [5, 11] (fun r i => ∃ k : Nat, k ≤ s.size ∧ i = .int .i64 k ∧ r = .int .u32 (crc r0 (s.data.toList.take k) : Nat)) (fun _ i => s.size - (intOf i).toNat)
  case atStart => exact ⟨0, Nat.zero_le _, rfl, rfl⟩
  case round =>
    obtain ⟨k, hk, rfl, rfl⟩ := hrel
    by_cases hlt : k < s.size
    · have hts := Lib.hid (crc_snoc r0 (s.data.toList.take k) s[k])
      have htk := Lib.hid (take_snoc s k hlt)
      have hr := crc_lt (s.data.toList.take k) hr0'
      generalize crc r0 (s.data.toList.take k) = r at hr hts ⊢
      have hb := byte_lt s[k]
      have hb' : ((s[k].toNat : Nat) : Int) % 4294967296 = ((s[k].toNat : Nat) : Int) := by omega
      have e1 := xor_cast (b := s[k].toNat) hr (by omega)
      have hr1 : r ^^^ s[k].toNat < 4294967296 := xor_lt32 hr (by omega)
      have HR : Hid (step8 r s[k] = step4 (step4 (r ^^^ s[k].toNat))) := Lib.hid rfl
      generalize r ^^^ s[k].toNat = r1 at e1 hr1 HR
      have e2 := and15_cast hr1
      have e3 := step_cast hr1
      have hr2 := step4_lt hr1
      generalize step4 r1 = r2 at e3 hr2 HR
      have e4 := and15_cast hr2
      have e5 := step_cast hr2
      generalize step4 r2 = r3 at e5 HR
      have b1 : r1 % 16 < 16 := by omega
      have b2 : r2 % 16 < 16 := by omega
      go_wp2
      go_round
      case rel => exact ⟨k + 1, by omega, by go_num, by rw [htk.out, hts.out, HR.out]⟩
      case measure => simp [intOf]; omega
    · have hr := crc_lt s.data.toList hr0'
      have e1 := compl_cast hr
      have hk' : s.data.toList.take k = s.data.toList := List.take_of_length_le (by simp; omega)
      go_wp2
      go_ret
      exact ⟨rfl, rfl⟩
theorem ref_any (sum : Nat) (s : ByteArray) (w : World) (hs : s.size ≤ maxLen) (h1 : sum < 4294967296) :
    Calls Tryz.prog 131 #[.int .u32 sum, .string s] w fun e w' => e = .returned (.int .u32 ((4294967295 ^^^ crc (4294967295 ^^^ sum) s.data.toList : Nat) : Int)) ∧ w = w' := by
  unfold maxLen at hs
  have e0 := compl_cast h1
  generalize hr0 : 4294967295 ^^^ sum = r0 at e0
  have hr0' : r0 < 4294967296 := by rw [← hr0]; exact xor_lt32 (by decide) h1
  go_enter Tryz.func131, Tryz.ntmps131
  go_wp2
  go_loop [5, 6] (fun r i => ∃ k : Nat, k ≤ s.size ∧ i = .int .i64 k ∧ r = .int .u32 (crc r0 (s.data.toList.take k) : Nat)) (fun _ i => s.size - (intOf i).toNat)
  case atStart => exact ⟨0, Nat.zero_le _, rfl, rfl⟩
  case round =>
    obtain ⟨k, hk, rfl, rfl⟩ := hrel
    by_cases hlt : k < s.size
    · have hts := Lib.hid (crc_snoc r0 (s.data.toList.take k) s[k])
      have htk := Lib.hid (take_snoc s k hlt)
      have hr := crc_lt (s.data.toList.take k) hr0'
      generalize crc r0 (s.data.toList.take k) = r at hr hts ⊢
      have hb := byte_lt s[k]
      have h8 := Lib.hid (step8_rb r s[k])
      go_wp2
      go_loop [5, 7] (fun x i => ∃ j : Nat, j ≤ 8 ∧ i = .int .i64 j ∧ x = .int .u32 (rb s[k].toNat r j : Nat)) (fun _ i => 8 - (intOf i).toNat)
      case atStart => exact ⟨0, Nat.zero_le _, rfl, rfl⟩
      case round =>
        obtain ⟨j, hj, rfl, rfl⟩ := hrel
        have hq := rb_lt s[k].toNat hr j
        have hrb : Hid (rb s[k].toNat r (j + 1) = lf (rb s[k].toNat r j ^^^ (s[k].toNat / 2 ^ j % 2))) := Lib.hid rfl
        by_cases hl8 : j < 8
        · generalize rb s[k].toNat r j = q at hq hrb ⊢
          have e1 : bits .xor .u32 (q : Int) ((s[k].toNat : Int) / 2 ^ j % 2) = ((q ^^^ (s[k].toNat / 2 ^ j % 2) : Nat) : Int) := by
            rw [show (s[k].toNat : Int) / 2 ^ j % 2 = ((s[k].toNat / 2 ^ j % 2 : Nat) : Int) by simp]
            exact xor_cast hq (bit_lt _ _)
          have hx : q ^^^ (s[k].toNat / 2 ^ j % 2) < 4294967296 := xor_lt32 hq (bit_lt _ _)
          generalize q ^^^ (s[k].toNat / 2 ^ j % 2) = x at e1 hx hrb
          by_cases hodd : x % 2 = 1
          · have hlf : Hid (lf x = x / 2 ^^^ 2197175160) := Lib.hid (if_pos hodd)
            have e2 : bits .xor .u32 ((x : Int) / 2) 2197175160 = ((x / 2 ^^^ 2197175160 : Nat) : Int) := by
              rw [show (x : Int) / 2 = ((x / 2 : Nat) : Int) by omega]
              exact xor_cast (by omega) (by decide)
            have e3 : (((x : Int) % 2) == 1) = true := by simp; omega
            clear hodd
            go_wp2
            go_round
            case rel => exact ⟨j + 1, by omega, by go_num, by rw [hrb.out, hlf.out]⟩
            case measure => simp [intOf]; omega
          · have hlf : Hid (lf x = x / 2) := Lib.hid (if_neg hodd)
            have e3 : (((x : Int) % 2) == 1) = false := by simp; omega
            clear hodd
            go_wp2
            go_round
            case rel => exact ⟨j + 1, by omega, by go_num, by rw [hrb.out, hlf.out]; congr 1⟩
            case measure => simp [intOf]; omega
        · obtain rfl : j = 8 := by omega
          have H8 : Hid (rb s[k].toNat r 8 = crc r0 (s.data.toList.take (k + 1))) := Lib.hid (by rw [htk.out, hts.out, h8.out])
          generalize rb s[k].toNat r 8 = y at H8 ⊢
          clear hrb hq
          go_wp2
          go_round
          case rel => exact ⟨k + 1, by omega, by go_num, by rw [H8.out]⟩
          case measure => simp [intOf]; omega
    · have hr := crc_lt s.data.toList hr0'
      have e1 := compl_cast hr
      have hk' : s.data.toList.take k = s.data.toList := List.take_of_length_le (by simp; omega)
      go_wp2
      go_ret
      exact ⟨rfl, rfl⟩
/-- What the table's cells hold. -/
def Tab (w : World) : Prop := ∀ i, i < 16 → w.cell? ⟨0, i, none⟩ = some (.int .u32 (nib i))
theorem ext_c (sum : Nat) (s : ByteArray) (w : World) (hs : s.size ≤ maxLen) (h1 : sum < 4294967296) (hc : Tab w) :
    Calls Tryz.prog 112 #[.int .u32 sum, .string s] w fun e w' => e = .returned (.int .u32 (ext sum s.data.toList : Nat)) ∧ w = w' := extend_any sum s w hs h1 hc
theorem rext_c (sum : Nat) (s : ByteArray) (w : World) (hs : s.size ≤ maxLen) (h1 : sum < 4294967296) :
    Calls Tryz.prog 131 #[.int .u32 sum, .string s] w fun e w' => e = .returned (.int .u32 (ext sum s.data.toList : Nat)) ∧ w = w' := ref_any sum s w hs h1
theorem sum_c (s : ByteArray) (w : World) (hs : s.size ≤ maxLen) (hc : Tab w) :
    Calls Tryz.prog 82 #[.string s] w fun e w' => e = .returned (.int .u32 (ext 0 s.data.toList : Nat)) ∧ w = w' := by
  go_enter Tryz.func82, Tryz.ntmps82
  go_wp2_with (go_at_call 112; refine (ext_c 0 s _ hs (by decide) hc).mono ?_; rintro e w' ⟨rfl, rfl⟩)
  go_ret
  exact ⟨rfl, rfl⟩
theorem rsum_c (s : ByteArray) (w : World) (hs : s.size ≤ maxLen) :
    Calls Tryz.prog 99 #[.string s] w fun e w' => e = .returned (.int .u32 (ext 0 s.data.toList : Nat)) ∧ w = w' := by
  go_enter Tryz.func99, Tryz.ntmps99
  go_wp2_with (go_at_call 131; refine (rext_c 0 s _ hs (by decide)).mono ?_; rintro e w' ⟨rfl, rfl⟩)
  go_ret
  exact ⟨rfl, rfl⟩
end Go.Proofs.YtjnphajkoopkgaaGreatDoor.CR
/- varint.Read by one contract, for every text of at most 2 to the 48 bytes. -/
namespace Go.Proofs.YtjnphajkoopkgaaGreatDoor
open Go.RowKit
set_option linter.unusedVariables false
theorem within_c (s : ByteArray) (p : Int) (W : World) : Calls Tryz.prog 139 #[.string s, .int .i64 p] W fun e w' => e = .returned (.bool (decide (0 ≤ p ∧ p ≤ (s.size : Int)))) ∧ W = w' := by
  by_cases h : 0 ≤ p
  · by_cases h2 : p ≤ (s.size : Int)
    · have d : decide (p ≤ (s.size : Int)) = true := decide_eq_true h2
      rw [decide_eq_true (show 0 ≤ p ∧ p ≤ (s.size : Int) from ⟨h, h2⟩)]
      go_enter Tryz.func139, Tryz.ntmps139
      go_wp2
      go_ret
      exact ⟨rfl, rfl⟩
    · have d : decide (p ≤ (s.size : Int)) = false := decide_eq_false h2
      rw [decide_eq_false (show ¬ (0 ≤ p ∧ p ≤ (s.size : Int)) from fun x => h2 x.2)]
      go_enter Tryz.func139, Tryz.ntmps139
      go_wp2
      go_ret
      exact ⟨rfl, rfl⟩
  · have d : decide (0 ≤ p) = false := decide_eq_false h
    rw [decide_eq_false (show ¬ (0 ≤ p ∧ p ≤ (s.size : Int)) from fun x => h x.1)]
    go_enter Tryz.func139, Tryz.ntmps139
    go_wp2
    go_ret
    exact ⟨rfl, rfl⟩
theorem wide_c (p : Int) (W : World) : Calls Tryz.prog 111 #[.int .i64 p] W fun e w' => e = .returned (.bool (decide (1 ≤ p ∧ p ≤ 8))) ∧ W = w' := by
  by_cases h : 1 ≤ p
  · by_cases h2 : p ≤ 8
    · have d : decide (p ≤ 8) = true := decide_eq_true h2
      rw [decide_eq_true (show 1 ≤ p ∧ p ≤ 8 from ⟨h, h2⟩)]
      go_enter Tryz.func111, Tryz.ntmps111
      go_wp2
      go_ret
      exact ⟨rfl, rfl⟩
    · have d : decide (p ≤ 8) = false := decide_eq_false h2
      rw [decide_eq_false (show ¬ (1 ≤ p ∧ p ≤ 8) from fun x => h2 x.2)]
      go_enter Tryz.func111, Tryz.ntmps111
      go_wp2
      go_ret
      exact ⟨rfl, rfl⟩
  · have d : decide (1 ≤ p) = false := decide_eq_false h
    rw [decide_eq_false (show ¬ (1 ≤ p ∧ p ≤ 8) from fun x => h x.1)]
    go_enter Tryz.func111, Tryz.ntmps111
    go_wp2
    go_ret
    exact ⟨rfl, rfl⟩
set_option maxHeartbeats 1000000 in
set_option maxRecDepth 100000 in
theorem read_in (s : ByteArray) (a w : Nat) (W : World) (hs : s.size ≤ 281474976710656) (ha : a ≤ s.size) (h1 : 1 ≤ w) (h8 : w ≤ 8) :
    Calls Tryz.prog 113 #[.string s, .int .i64 a, .int .i64 w] W fun e w' => e = .returned (Tri (readG s a w).1 (readG s a w).2.1 (readG s a w).2.2) ∧ W = w' := by
  have hR : readG s a w = if (s.size : Int) - (a : Int) < (w : Int) then (0, 0, 2) else if 9223372036854775808 ≤ bv ((s.data.toList.drop a).take w) then (0, 0, 3) else (((bv ((s.data.toList.drop a).take w) : Nat) : Int), (a : Int) + (w : Int), 0) := by
    unfold readG
    rw [if_neg (by omega)]
    rfl
  have cw := within_c s a W
  rw [decide_eq_true (show 0 ≤ (a : Int) ∧ (a : Int) ≤ (s.size : Int) by omega)] at cw
  have cd := wide_c w W
  rw [decide_eq_true (show 1 ≤ (w : Int) ∧ (w : Int) ≤ 8 by omega)] at cd
  by_cases hc : (s.size : Int) - (a : Int) < (w : Int)
  · rw [if_pos hc] at hR
    have HR := Lib.hid hR
    clear hR
    go_enter Tryz.func113, Tryz.ntmps113
    go_wp2_with (first
      | ((with_reducible refine cw.mono ?_); rintro e w' ⟨rfl, rfl⟩)
      | ((with_reducible refine cd.mono ?_); rintro e w' ⟨rfl, rfl⟩))
    go_ret3
    exact ⟨by rw [HR.out]; rfl, rfl⟩
  · rw [if_neg hc] at hR
    have hin : a + w ≤ s.size := by omega
    have d1 : decide ((s.size : Int) - (a : Int) < (w : Int)) = false := decide_eq_false hc
    have HR := Lib.hid hR
    clear hR hc
    go_enter Tryz.func113, Tryz.ntmps113
    go_wp2_with (first
      | ((with_reducible refine cw.mono ?_); rintro e w' ⟨rfl, rfl⟩)
      | ((with_reducible refine cd.mono ?_); rintro e w' ⟨rfl, rfl⟩))
    go_loop [9, 27] (fun x i => ∃ k : Nat, k ≤ w ∧ i = .int .i64 k ∧ x = .int .u64 (bv ((s.data.toList.drop a).take k) : Nat)) (fun _ i => w - (intOf i).toNat)
    case atStart => exact ⟨0, by omega, rfl, rfl⟩
    case round =>
      obtain ⟨k, hk, rfl, rfl⟩ := hrel
      by_cases hkw : k < w
      · have hak : a + k < s.size := by omega
        have hsn := take_drop_snoc hak
        have hlt := bv_take_lt (s.data.toList.drop a) (k := k) (by omega)
        have HS : Hid (bv ((s.data.toList.drop a).take (k + 1)) = bv ((s.data.toList.drop a).take k) * 256 + s[a + k].toNat) := Lib.hid (by rw [hsn, bv_snoc])
        have hb := toNat_lt s[a + k]
        clear hsn
        generalize bv ((s.data.toList.drop a).take k) = x at *
        have e1 : bits .or .u64 ((x : Int) * 256) (s[a + k].toNat : Int) = ((x * 256 + s[a + k].toNat : Nat) : Int) := by
          have := u64_or_nat (x * 256) s[a + k].toNat (by omega) (by omega)
          rw [or_low hlt] at this
          exact this
        generalize x * 256 + s[a + k].toNat = y at *
        go_wp2
        go_round
        case rel => exact ⟨k + 1, by omega, by go_num, by rw [HS.out]⟩
        case measure => simp [intOf]; omega
      · obtain rfl : k = w := by omega
        have hv := bv_take_lt8 (s.data.toList.drop a) (k := k) (by omega)
        generalize bv ((s.data.toList.drop a).take k) = v at *
        by_cases hbig : 9223372036854775808 ≤ v
        · have H1 : Hid (readG s a k = (0, 0, 3)) := Lib.hid (by rw [HR.out, if_pos hbig])
          have e1 : (v : Int) / 9223372036854775808 = 1 := by omega
          clear HR hbig hv
          go_wp2
          go_ret3
          exact ⟨by rw [H1.out]; rfl, rfl⟩
        · have H1 : Hid (readG s a k = ((v : Int), (a : Int) + (k : Int), 0)) := Lib.hid (by rw [HR.out, if_neg hbig])
          have e1 : (v : Int) / 9223372036854775808 = 0 := by omega
          have hv2 : v ≤ 9223372036854775807 := by omega
          clear HR hbig hv
          go_wp2
          go_ret3
          exact ⟨by rw [H1.out]; rfl, rfl⟩
theorem read_out (s : ByteArray) (p w : Int) (W : World) (h : p < 0 ∨ (s.size : Int) < p ∨ w < 1 ∨ 8 < w) :
    Calls Tryz.prog 113 #[.string s, .int .i64 p, .int .i64 w] W fun e w' => e = .returned (Tri 0 0 1) ∧ W = w' := by
  have cw := within_c s p W
  have cd := wide_c w W
  by_cases h1 : 0 ≤ p ∧ p ≤ (s.size : Int)
  · rw [decide_eq_true h1] at cw
    rw [decide_eq_false (show ¬ (1 ≤ w ∧ w ≤ 8) by omega)] at cd
    clear h h1
    go_enter Tryz.func113, Tryz.ntmps113
    go_wp2_with (first
      | ((with_reducible refine cw.mono ?_); rintro e w' ⟨rfl, rfl⟩)
      | ((with_reducible refine cd.mono ?_); rintro e w' ⟨rfl, rfl⟩))
    go_ret3
    exact ⟨rfl, rfl⟩
  · rw [decide_eq_false h1] at cw
    clear h h1
    go_enter Tryz.func113, Tryz.ntmps113
    go_wp2_with (first
      | ((with_reducible refine cw.mono ?_); rintro e w' ⟨rfl, rfl⟩)
      | ((with_reducible refine cd.mono ?_); rintro e w' ⟨rfl, rfl⟩))
    go_ret3
    exact ⟨rfl, rfl⟩
theorem read_c (s : ByteArray) (p w : Int) (W : World) (hs : s.size ≤ 281474976710656) :
    Calls Tryz.prog 113 #[.string s, .int .i64 p, .int .i64 w] W fun e w' => e = .returned (Tri (readG s p w).1 (readG s p w).2.1 (readG s p w).2.2) ∧ W = w' := by
  by_cases h : p < 0 ∨ (s.size : Int) < p ∨ w < 1 ∨ 8 < w
  · have e : readG s p w = (0, 0, 1) := by unfold readG; rw [if_pos h]
    rw [e]
    exact read_out s p w W h
  · obtain ⟨a, rfl⟩ : ∃ a : Nat, p = a := ⟨p.toNat, by omega⟩
    obtain ⟨m, rfl⟩ : ∃ m : Nat, w = m := ⟨w.toNat, by omega⟩
    exact read_in s a m W hs (by omega) (by omega) (by omega)
end Go.Proofs.YtjnphajkoopkgaaGreatDoor
/- varint.Fixed by one contract. No condition. -/
namespace Go.Proofs.YtjnphajkoopkgaaGreatDoor
open Go.RowKit
set_option linter.unusedVariables false
set_option maxHeartbeats 1000000 in
set_option maxRecDepth 100000 in
theorem fixed_in (n w : Nat) (W : World) (hn : n ≤ 9223372036854775807) (h1 : 1 ≤ w) (h8 : w ≤ 8) (hq : n / 256 ^ w = 0) :
    Calls Tryz.prog 81 #[.int .i64 n, .int .i64 w] W (Good W (.tuple #[.string ⟨(be w n).toArray⟩, .int .i64 0])) := by
  have cd := wide_c w W
  rw [decide_eq_true (show 1 ≤ (w : Int) ∧ (w : Int) ≤ 8 by omega)] at cd
  have hst : FixAt W 166 8 w n w n (List.replicate 8 0) (W.alloc (.cells (Array.replicate 8 (.int .u8 0)) 166)) :=
    ⟨zero_row W 166 8, (Below.refl _ _).alloc (Nat.le_refl _) _, by simp, by rw [List.drop_of_length_le (by rw [List.length_take]; omega), List.append_nil], by simp⟩
  have HST := Lib.hid hst
  have d0 : decide ((n : Int) < 0) = false := decide_eq_false (by omega)
  have e8 : (2 : Nat) ^ (8 * w) = 256 ^ w := by rw [show (256 : Nat) = 2 ^ 8 from rfl, ← Nat.pow_mul]
  have hsh : (n : Int) / 2 ^ (8 * w) = 0 := by
    have h2 : ((n / 2 ^ (8 * w) : Nat) : Int) = 0 := by rw [e8, hq]; rfl
    simpa using h2
  clear hst
  go_enter Tryz.func81, Tryz.ntmps81
  go_wp2_with ((with_reducible refine cd.mono ?_); rintro e w' ⟨rfl, rfl⟩)
  clear hsh e8 hq
  go_loopw [0, 7] (fun x j wr => ∃ (i m : Nat) (L : List UInt8), i ≤ w ∧ j = .int .i64 ((i : Int) - 1) ∧ x = .int .i64 m ∧ m ≤ 9223372036854775807 ∧ FixAt W 166 8 w n i m L wr) (fun _ j _ => (intOf j + 1).toNat)
  case atStart => exact ⟨w, n, _, by omega, rfl, rfl, hn, HST.out⟩
  case round =>
    obtain ⟨i, m, L, hi, rfl, rfl, hm, hR⟩ := hrel
    by_cases h0 : 0 < i
    · obtain ⟨i, rfl⟩ : ∃ k, i = k + 1 := ⟨i - 1, by omega⟩
      have HS := Lib.hid (hR.step (by omega) (by omega))
      have hil : i < 8 := by omega
      have hfr := hR.row.frozen (j := i) hil
      obtain ⟨v0, hcell⟩ := hR.row.there (j := i) hil
      have hb : (m : Int) % 256 = ((m % 256 : Nat) : Int) := by omega
      have hd : (m : Int) / 256 = ((m / 256 : Nat) : Int) := by omega
      have hdm : m / 256 ≤ 9223372036854775807 := by omega
      clear hR
      generalize m % 256 = b at *
      generalize m / 256 = q at *
      go_wp2
      go_roundw
      case rel => exact ⟨i, q, _, by omega, rfl, rfl, hdm, HS.out⟩
      case measure => simp [intOf]
    · obtain rfl : i = 0 := by omega
      have hbel := hR.bel
      have hsl : ∀ W1, (Instr.sliceAt 166 (.pointer (some ⟨W.heap.size, 0, none⟩)) none (some (.int .i64 (w : Int))) none).run Tryz.prog W1 = .ok (.slice (some ⟨W.heap.size, 0, none⟩) w 8) W1 := fun W1 =>
        slice_head (P := Tryz.prog) W1 166 5 W.heap.size w 8 Tryz.underlying166 (by kernel_rfl) h8
      have htext := (hR.row.take w).text (P := Tryz.prog) 106 9 8 w Tryz.underlying106 Tryz.underlying5 Tryz.underlying9 (by rw [List.length_take, hR.len]; omega)
      have hall := hR.all
      rw [List.drop_zero, be, List.nil_append] at hall
      rw [hall] at htext
      clear hR hall
      generalize (⟨(be w n).toArray⟩ : ByteArray) = r at *
      go_wp2
      go_ret2
      exact ⟨rfl, hbel⟩
theorem fixed_out (n w : Int) (W : World) (hn : n ≤ 9223372036854775807) (h : w < 1 ∨ 8 < w ∨ n < 0 ∨ n.toNat / 256 ^ w.toNat ≠ 0) :
    Calls Tryz.prog 81 #[.int .i64 n, .int .i64 w] W (Good W (.tuple #[.string ⟨#[]⟩, .int .i64 1])) := by
  have cd := wide_c w W
  by_cases hw : 1 ≤ w ∧ w ≤ 8
  · rw [decide_eq_true hw] at cd
    by_cases h0 : n < 0
    · have d0 : decide (n < 0) = true := decide_eq_true h0
      clear h
      go_enter Tryz.func81, Tryz.ntmps81
      go_wp2_with ((with_reducible refine cd.mono ?_); rintro e w' ⟨rfl, rfl⟩)
      go_ret2
      exact ⟨rfl, Below.refl _ _⟩
    · obtain ⟨m, rfl⟩ : ∃ m : Nat, n = m := ⟨n.toNat, by omega⟩
      obtain ⟨k, rfl⟩ : ∃ k : Nat, w = k := ⟨w.toNat, by omega⟩
      have d0 : decide ((m : Int) < 0) = false := decide_eq_false h0
      have hq : m / 256 ^ k ≠ 0 := by
        rcases h with h | h | h | h
        · omega
        · omega
        · omega
        · simpa using h
      have e8 : (2 : Nat) ^ (8 * k) = 256 ^ k := by rw [show (256 : Nat) = 2 ^ 8 from rfl, ← Nat.pow_mul]
      have hsh : (m : Int) / 2 ^ (8 * k) = ((m / 256 ^ k : Nat) : Int) := by rw [← e8]; simp
      have hne : (((m / 256 ^ k : Nat) : Int) != 0) = true := by simp only [bne_iff_ne]; omega
      generalize m / 256 ^ k = q at *
      clear h e8 hq
      go_enter Tryz.func81, Tryz.ntmps81
      go_wp2_with ((with_reducible refine cd.mono ?_); rintro e w' ⟨rfl, rfl⟩)
      go_ret2
      exact ⟨rfl, Below.refl _ _⟩
  · rw [decide_eq_false hw] at cd
    clear h
    go_enter Tryz.func81, Tryz.ntmps81
    go_wp2_with ((with_reducible refine cd.mono ?_); rintro e w' ⟨rfl, rfl⟩)
    go_ret2
    exact ⟨rfl, Below.refl _ _⟩
theorem fixed_c (n w : Int) (W : World) (hn : n ≤ 9223372036854775807) :
    Calls Tryz.prog 81 #[.int .i64 n, .int .i64 w] W (Good W (.tuple #[.string (fixG n w).1, .int .i64 (fixG n w).2])) := by
  by_cases h : w < 1 ∨ 8 < w ∨ n < 0 ∨ n.toNat / 256 ^ w.toNat ≠ 0
  · have e : fixG n w = (⟨#[]⟩, 1) := by unfold fixG; rw [if_pos h]
    rw [e]
    exact fixed_out n w W hn h
  · have e : fixG n w = (⟨(be w.toNat n.toNat).toArray⟩, 0) := by unfold fixG; rw [if_neg h]
    rw [e]
    have h1 : n.toNat / 256 ^ w.toNat = 0 := by
      rcases Nat.eq_zero_or_pos (n.toNat / 256 ^ w.toNat) with h2 | h2
      · exact h2
      · exact absurd (.inr (.inr (.inr (by omega)))) h
    have hw1 : ¬ w < 1 := fun x => h (.inl x)
    have hw2 : ¬ 8 < w := fun x => h (.inr (.inl x))
    have hn0 : ¬ n < 0 := fun x => h (.inr (.inr (.inl x)))
    clear h e
    obtain ⟨m, rfl⟩ : ∃ m : Nat, n = m := ⟨n.toNat, by omega⟩
    obtain ⟨k, rfl⟩ : ∃ k : Nat, w = k := ⟨w.toNat, by omega⟩
    exact fixed_in m k W (by omega) (by omega) (by omega) (by simpa using h1)
end Go.Proofs.YtjnphajkoopkgaaGreatDoor
/- The document's Fixed by one contract. No condition. -/
namespace Go.Proofs.YtjnphajkoopkgaaGreatDoor
open Go.RowKit
set_option linter.unusedVariables false
set_option maxHeartbeats 1000000 in
set_option maxRecDepth 100000 in
theorem rfixed_in (n w : Nat) (W : World) (hn : n ≤ 9223372036854775807) (h1 : 1 ≤ w) (h8 : w ≤ 8) :
    Calls Tryz.prog 130 #[.int .i64 n, .int .i64 w] W (Good W (.tuple #[.string (fixG n w).1, .int .i64 (fixG n w).2])) := by
  obtain ⟨i0, hi, hz0, hz1, hz2⟩ := info_parts info5
  obtain ⟨W1, hmk, hB, hbel1, hsz1⟩ := make_bytes (P := Tryz.prog) 106 5 i0 Tryz.underlying106 hi hz0 hz1 hz2 .i64 .i64 w (by omega) W
  have hst : FixAt W 5 w w n w n (List.replicate w 0) W1 :=
    ⟨hB, hbel1, by simp, by rw [List.drop_of_length_le (by rw [List.length_take]; omega), List.append_nil], by simp⟩
  have HST := Lib.hid hst
  have hfx : Hid (fixG n w = if n / 256 ^ w ≠ 0 then (⟨#[]⟩, 1) else (⟨(be w n).toArray⟩, 0)) := Lib.hid (by
    unfold fixG
    have e : ((w : Int) < 1 ∨ 8 < (w : Int) ∨ (n : Int) < 0 ∨ (n : Int).toNat / 256 ^ (w : Int).toNat ≠ 0) ↔ n / 256 ^ w ≠ 0 := by
      simp only [Int.toNat_natCast]
      constructor
      · rintro (h | h | h | h)
        · omega
        · omega
        · omega
        · exact h
      · exact fun h => .inr (.inr (.inr h))
    by_cases hh : n / 256 ^ w ≠ 0
    · rw [if_pos (e.2 hh), if_pos hh]
    · rw [if_neg (mt e.1 hh), if_neg hh]; rfl)
  have d0 : decide ((n : Int) < 0) = false := decide_eq_false (by omega)
  have d1 : decide ((w : Int) < 1) = false := decide_eq_false (by omega)
  have d2 : decide ((8 : Int) < (w : Int)) = false := decide_eq_false (by omega)
  clear hst hB hbel1
  go_enter Tryz.func130, Tryz.ntmps130
  go_wp2
  go_loopw [0, 7] (fun x j wr => ∃ (i m : Nat) (L : List UInt8), i ≤ w ∧ j = .int .i64 ((i : Int) - 1) ∧ x = .int .i64 m ∧ m ≤ 9223372036854775807 ∧ FixAt W 5 w w n i m L wr) (fun _ j _ => (intOf j + 1).toNat)
  case atStart => exact ⟨w, n, _, by omega, rfl, rfl, hn, HST.out⟩
  case round =>
    obtain ⟨i, m, L, hi, rfl, rfl, hm, hR⟩ := hrel
    by_cases h0 : 0 < i
    · obtain ⟨i, rfl⟩ : ∃ k, i = k + 1 := ⟨i - 1, by omega⟩
      have HS := Lib.hid (hR.step (by omega) (by omega))
      have hil : i < w := by omega
      have hfr := hR.row.frozen (j := i) hil
      obtain ⟨v0, hcell⟩ := hR.row.there (j := i) hil
      have hb : (m : Int) % 256 = ((m % 256 : Nat) : Int) := by omega
      have hbl : m % 256 < 256 := Nat.mod_lt _ (by decide)
      have hd : (m : Int) / 256 = ((m / 256 : Nat) : Int) := by omega
      have hdm : m / 256 ≤ 9223372036854775807 := by omega
      clear hR
      generalize m % 256 = b at *
      generalize m / 256 = q at *
      go_wp2
      go_roundw
      case rel => exact ⟨i, q, _, by omega, rfl, rfl, hdm, HS.out⟩
      case measure => simp [intOf]
    · obtain rfl : i = 0 := by omega
      have hbel := hR.bel
      have hq := hR.quo
      rw [Nat.sub_zero] at hq
      have htext := (hR.row.take w).text (P := Tryz.prog) 106 9 w w Tryz.underlying106 Tryz.underlying5 Tryz.underlying9 (by rw [List.length_take, hR.len]; omega)
      have hall := hR.all
      rw [List.drop_zero, be, List.nil_append] at hall
      rw [hall] at htext
      by_cases hz : m = 0
      · have H1 : Hid (fixG n w = (⟨(be w n).toArray⟩, 0)) := Lib.hid (by rw [hfx.out, if_neg (by omega)])
        clear hR hall hq hfx
        subst hz
        generalize (⟨(be w n).toArray⟩ : ByteArray) = r at *
        go_wp2
        go_ret2
        exact ⟨by rw [H1.out]; rfl, hbel⟩
      · have H1 : Hid (fixG n w = (⟨#[]⟩, 1)) := Lib.hid (by rw [hfx.out, if_pos (by omega)])
        have hg : 0 < m := by omega
        clear hR hall hq hfx htext
        go_wp2
        go_ret2
        exact ⟨by rw [H1.out]; rfl, hbel⟩
theorem rfixed_out (n w : Int) (W : World) (h : w < 1 ∨ 8 < w ∨ n < 0) :
    Calls Tryz.prog 130 #[.int .i64 n, .int .i64 w] W (Good W (.tuple #[.string ⟨#[]⟩, .int .i64 1])) := by
  by_cases h1 : w < 1
  · clear h
    go_enter Tryz.func130, Tryz.ntmps130
    go_wp2
    go_ret2
    exact ⟨rfl, Below.refl _ _⟩
  · have q1 : decide (w < 1) = false := decide_eq_false h1
    by_cases h2 : 8 < w
    · have q2 : decide (8 < w) = true := decide_eq_true h2
      clear h
      go_enter Tryz.func130, Tryz.ntmps130
      go_wp2
      go_ret2
      exact ⟨rfl, Below.refl _ _⟩
    · have q2 : decide (8 < w) = false := decide_eq_false h2
      have q3 : decide (n < 0) = true := decide_eq_true (by omega)
      clear h
      go_enter Tryz.func130, Tryz.ntmps130
      go_wp2
      go_ret2
      exact ⟨rfl, Below.refl _ _⟩
theorem rfixed_c (n w : Int) (W : World) (hn : n ≤ 9223372036854775807) :
    Calls Tryz.prog 130 #[.int .i64 n, .int .i64 w] W (Good W (.tuple #[.string (fixG n w).1, .int .i64 (fixG n w).2])) := by
  by_cases h : w < 1 ∨ 8 < w ∨ n < 0
  · have e : fixG n w = (⟨#[]⟩, 1) := by
      unfold fixG
      rw [if_pos (by rcases h with h | h | h <;> simp [h])]
    rw [e]
    exact rfixed_out n w W h
  · obtain ⟨m, rfl⟩ : ∃ m : Nat, n = m := ⟨n.toNat, by omega⟩
    obtain ⟨k, rfl⟩ : ∃ k : Nat, w = k := ⟨w.toNat, by omega⟩
    exact rfixed_in m k W (by omega) (by omega) (by omega)
end Go.Proofs.YtjnphajkoopkgaaGreatDoor
/- A batch's bytes: the program's Encode and Check, the document's Encode. Condition: the table of sums. -/
namespace Go.Proofs.YtjnphajkoopkgaaGreatDoor
open Go.RowKit
set_option linter.unusedVariables false
abbrev Tab (w : World) : Prop := CR.Tab w
theorem Tab.below {w w' : World} (h : Tab w) (hb : Below w.heap.size w w') : Tab w' := fun i hi => by
  have hc := h i hi
  have hlt : 0 < w.heap.size := by
    rcases Nat.lt_or_ge 0 w.heap.size with h1 | h1
    · exact h1
    · simp [World.cell?, Array.getElem?_eq_none h1] at hc
  exact (hb.cell (p := ⟨0, i, none⟩) hlt).trans hc
def w4 (n : Nat) : ByteArray := ⟨(be 4 n).toArray⟩
theorem w4_size (n : Nat) : (w4 n).size = 4 := by show (be 4 n).toArray.size = 4; simp [be_len]
theorem fix4 {n : Nat} (h : n < 4294967296) : fixG (n : Int) 4 = (w4 n, 0) := by
  unfold fixG w4
  have e : n / 256 ^ 4 = 0 := Nat.div_eq_of_lt (by omega)
  rw [if_neg]
  · rfl
  · simp only [Int.toNat_natCast, show (4 : Int).toNat = 4 from rfl, e]
    omega
def sumN (s : ByteArray) : Nat := CR.ext 0 s.data.toList
theorem sumN_lt (s : ByteArray) : sumN s < 4294967296 := CR.ext_lt (by decide) _
/-- The bytes of a body. -/
def wrapB (s : ByteArray) : ByteArray := w4 s.size ++ w4 (sumN s) ++ s
theorem wrapB_size (s : ByteArray) : (wrapB s).size = 8 + s.size := by unfold wrapB; rw [ByteArray.size_append, ByteArray.size_append, w4_size, w4_size]
def bodyB (b : BN) (L : List RX) : ByteArray := ⟨(bodyL b L).toArray⟩
theorem bodyB_size (b : BN) (L : List RX) : (bodyB b L).size = (bodyL b L).length := by show (bodyL b L).toArray.size = _; simp
def encB (b : BN) (L : List RX) : ByteArray := if batB b L = true then wrapB (bodyB b L) else ⟨#[]⟩
theorem batB_size {b : BN} {L : List RX} (h : batB b L = true) : (bodyB b L).size ≤ 60000 := by
  rw [bodyB_size]
  unfold batB at h
  simp only [Bool.and_eq_true, decide_eq_true_eq] at h
  exact h.2.2.2
theorem rof_c (n w : Int) (W : World) (hn : n ≤ 9223372036854775807) : Calls Tryz.prog 98 #[.int .i64 n, .int .i64 w] W (Good W (.string (fixG n w).1)) := by
  have hc := rfixed_c n w W hn
  generalize (fixG n w).1 = s at *
  generalize (fixG n w).2 = e at *
  go_enter Tryz.func98, Tryz.ntmps98
  go_wp2_with ((with_reducible refine hc.mono ?_); rintro e w1 ⟨rfl, hb⟩)
  go_ret
  exact ⟨rfl, hb⟩
theorem pfix_c (n : Nat) (W : World) (h : n < 4294967296) : Calls Tryz.prog 81 #[.int .i64 (n : Int), .int .i64 4] W (Good W (.tuple #[.string (w4 n), .int .i64 0])) := by
  have hc := fixed_c (n : Int) 4 W (by omega)
  rw [fix4 h] at hc
  exact hc
theorem rof4_c (n : Nat) (W : World) (h : n < 4294967296) : Calls Tryz.prog 98 #[.int .i64 (n : Int), .int .i64 4] W (Good W (.string (w4 n))) := by
  have hc := rof_c (n : Int) 4 W (by omega)
  rw [fix4 h] at hc
  exact hc
def encV (b : BN) (L : List RX) : Value := .tuple #[.string (encB b L), .int .i64 (batE b L)]
set_option maxHeartbeats 8000000 in
set_option maxRecDepth 100000 in
theorem pencode_c (b : BN) (A : Option Addr) (c : Nat) (L : List RX) (W : World) (h : RsIn W A L) (hlen : L.length ≤ 140737488351232) (hT : Tab W) :
    Calls Tryz.prog 46 #[.agg (bnC b (.slice A L.length c))] W (Good W (encV b L)) := by
  have hbel : Below W.heap.size W (W.alloc (.cells (bnC b (.slice A L.length c)) 44)) := (Below.refl _ W).alloc (Nat.le_refl _) _
  have cp := pack_c b A c L (W.alloc (.cells (bnC b (.slice A L.length c)) 44)) (h.below hbel) hlen
  obtain ⟨y0, y1, y2, y3, y4, y5⟩ := batC_at (Box.new W 44 (bnC b (.slice A L.length c)))
  have HB0 := Lib.hid hbel
  clear hbel
  unfold encV encB
  unfold packV batE at cp
  unfold batE
  cases hb : batB b L with
  | false =>
    rw [hb, if_neg (by decide), if_neg (by decide)] at cp
    rw [if_neg (by decide), if_neg (by decide)]
    obtain ⟨base, span, prod, epoch, seq⟩ := b
    clear hb
    unfold bnC at *
    simp only at *
    go_enter Tryz.func46, Tryz.ntmps46
    go_wp2_with fail
    (with_reducible refine cp.mono ?_)
    rintro e w1 ⟨rfl, hb1⟩
    go_wp2
    go_ret2
    exact ⟨rfl, HB0.out.trans (hb1.mono HB0.out.size)⟩
  | true =>
    rw [hb, if_pos rfl, if_pos rfl] at cp
    rw [if_pos rfl, if_pos rfl]
    have hsz := batB_size hb
    obtain ⟨base, span, prod, epoch, seq⟩ := b
    change Calls _ _ _ _ (Good _ (.tuple #[.string (bodyB ⟨base, span, prod, epoch, seq⟩ L), .int .i64 0])) at cp
    clear hb
    generalize bodyB ⟨base, span, prod, epoch, seq⟩ L = s at *
    have cs := fun w hw => CR.sum_c s w (by unfold maxLen; omega) hw
    have c1 := fun w => pfix_c s.size w (by omega)
    have c2 := fun w => pfix_c (sumN s) w (sumN_lt s)
    have hsl := sumN_lt s
    have z1 := w4_size s.size
    have z2 := w4_size (sumN s)
    have a1 := add_run (P := Tryz.prog) (a := w4 s.size) (b := w4 (sumN s)) (m := 4) (n := 4) (by omega) (by omega) (by decide)
    have a2 := add_run (P := Tryz.prog) (a := w4 s.size ++ w4 (sumN s)) (b := s) (m := 8) (n := 60000) (by rw [ByteArray.size_append]; omega) hsz (by decide)
    have HE := Lib.hid (show wrapB s = w4 s.size ++ w4 (sumN s) ++ s from rfl)
    change ∀ w, Tab w → Calls _ _ _ _ (fun e w' => e = .returned (.int .u32 (sumN s : Nat)) ∧ w = w') at cs
    clear z1 z2
    generalize sumN s = sm at *
    generalize w4 s.size = f1 at *
    generalize w4 sm = f2 at *
    generalize wrapB s = res at *
    unfold bnC at *
    simp only at *
    go_enter Tryz.func46, Tryz.ntmps46
    go_wp2_with fail
    (with_reducible refine cp.mono ?_)
    rintro e w1 ⟨rfl, hb1⟩
    have HB1 := Lib.hid (HB0.out.trans (hb1.mono HB0.out.size))
    clear hb1 cp y0 y1 y2 y3 y4 y5 HB0
    go_wp2_with fail
    (with_reducible refine (c1 _).mono ?_)
    rintro e w2 ⟨rfl, hb2⟩
    have HB2 := Lib.hid (HB1.out.trans (hb2.mono HB1.out.size))
    clear hb2 c1 HB1
    go_wp2_with fail
    (with_reducible refine (cs _ (hT.below HB2.out)).mono ?_)
    rintro e w3 ⟨rfl, rfl⟩
    go_wp2_with fail
    (with_reducible refine (c2 _).mono ?_)
    rintro e w4 ⟨rfl, hb4⟩
    have HB4 := Lib.hid (HB2.out.trans (hb4.mono HB2.out.size))
    clear hb4 c2 cs HB2
    go_wp2
    go_ret2
    exact ⟨by rw [HE.out]; rfl, HB4.out⟩
set_option maxHeartbeats 8000000 in
set_option maxRecDepth 100000 in
theorem rencode5_c (b : BN) (A : Option Addr) (c : Nat) (L : List RX) (W : World) (h : RsIn W A L) (hlen : L.length ≤ 140737488351232) :
    Calls Tryz.prog 63 #[.agg (bnC b (.slice A L.length c))] W (Good W (encV b L)) := by
  have hbel : Below W.heap.size W (W.alloc (.cells (bnC b (.slice A L.length c)) 44)) := (Below.refl _ W).alloc (Nat.le_refl _) _
  have cp := rcheck5_c b A c L (W.alloc (.cells (bnC b (.slice A L.length c)) 44)) (h.below hbel) hlen
  have HBX := Lib.hid (Box.new W 44 (bnC b (.slice A L.length c)))
  obtain ⟨y0, y1, y2, y3, y4, y5⟩ := batC_at HBX.out
  have HB0 := Lib.hid hbel
  clear hbel
  unfold encV encB
  unfold batE at cp
  unfold batE
  cases hb : batB b L with
  | false =>
    rw [hb, if_neg (by decide)] at cp
    rw [if_neg (by decide), if_neg (by decide)]
    obtain ⟨base, span, prod, epoch, seq⟩ := b
    clear hb
    unfold bnC at *
    simp only at *
    go_enter Tryz.func63, Tryz.ntmps63
    go_wp2_with fail
    (with_reducible refine cp.mono ?_)
    rintro e w1 ⟨rfl, hb1⟩
    go_wp2
    go_ret2
    exact ⟨rfl, HB0.out.trans (hb1.mono HB0.out.size)⟩
  | true =>
    rw [hb, if_pos rfl] at cp
    rw [if_pos rfl, if_pos rfl]
    have hsz := batB_size hb
    have hbb := hb
    unfold batB at hbb
    simp only [Bool.and_eq_true, decide_eq_true_eq] at hbb
    obtain ⟨hn, hl50, hg, _⟩ := hbb
    rw [goodL_eq, Bool.and_eq_true, List.all_eq_true] at hg
    have cb := fun w hw => rbody_c b A c L w hw hl50 hn (fun x hx => hg.2 x hx)
    change ∀ w, RsIn w A L → Calls _ _ _ _ (Good _ (.string (bodyB b L))) at cb
    clear hb hn hg
    obtain ⟨base, span, prod, epoch, seq⟩ := b
    generalize bodyB ⟨base, span, prod, epoch, seq⟩ L = s at *
    have cs := fun w => CR.rsum_c s w (by unfold maxLen; omega)
    have c1 := fun w => rof4_c s.size w (by omega)
    have c2 := fun w => rof4_c (sumN s) w (sumN_lt s)
    have hsl := sumN_lt s
    have z1 := w4_size s.size
    have z2 := w4_size (sumN s)
    have a1 := add_run (P := Tryz.prog) (a := w4 s.size) (b := w4 (sumN s)) (m := 4) (n := 4) (by omega) (by omega) (by decide)
    have a2 := add_run (P := Tryz.prog) (a := w4 s.size ++ w4 (sumN s)) (b := s) (m := 8) (n := 60000) (by rw [ByteArray.size_append]; omega) hsz (by decide)
    have HE := Lib.hid (show wrapB s = w4 s.size ++ w4 (sumN s) ++ s from rfl)
    change ∀ w, Calls _ _ _ _ (fun e w' => e = .returned (.int .u32 (sumN s : Nat)) ∧ w = w') at cs
    clear z1 z2
    generalize sumN s = sm at *
    generalize w4 s.size = f1 at *
    generalize w4 sm = f2 at *
    generalize wrapB s = res at *
    have CE := Lib.hid (fun w (hw : Box w W.heap.size 44 (bnC ⟨base, span, prod, epoch, seq⟩ (.slice A L.length c))) => batC_at hw)
    unfold bnC at *
    simp only at *
    go_enter Tryz.func63, Tryz.ntmps63
    go_wp2_with fail
    (with_reducible refine cp.mono ?_)
    rintro e w1 ⟨rfl, hb1⟩
    have HB1 := Lib.hid (HB0.out.trans (hb1.mono HB0.out.size))
    have HX1 := Lib.hid (HBX.out.later hb1)
    have hrs := h.below HB1.out
    clear hb1 cp y0 y1 y2 y3 y4 y5 HB0 HBX
    obtain ⟨y0, y1, y2, y3, y4, y5⟩ := CE.out _ HX1.out
    go_wp2_with fail
    (with_reducible refine (cb _ hrs).mono ?_)
    rintro e w2 ⟨rfl, hb2⟩
    have HB2 := Lib.hid (HB1.out.trans (hb2.mono HB1.out.size))
    clear hb2 cb HB1 hrs y0 y1 y2 y3 y4 y5
    go_wp2_with fail
    (with_reducible refine (c1 _).mono ?_)
    rintro e w3 ⟨rfl, hb3⟩
    have HB3 := Lib.hid (HB2.out.trans (hb3.mono HB2.out.size))
    clear hb3 c1 HB2
    go_wp2_with fail
    (with_reducible refine (cs _).mono ?_)
    rintro e w4 ⟨rfl, rfl⟩
    go_wp2_with fail
    (with_reducible refine (c2 _).mono ?_)
    rintro e w5 ⟨rfl, hb5⟩
    have HB5 := Lib.hid (HB3.out.trans (hb5.mono HB3.out.size))
    clear hb5 c2 cs HB3
    go_wp2
    go_ret2
    exact ⟨by rw [HE.out]; rfl, HB5.out⟩
end Go.Proofs.YtjnphajkoopkgaaGreatDoor
/- The document's Read by one contract, for every text of at most 2 to the 48 bytes. -/
namespace Go.Proofs.YtjnphajkoopkgaaGreatDoor
open Go.RowKit
set_option linter.unusedVariables false
set_option maxHeartbeats 1000000 in
set_option maxRecDepth 100000 in
theorem rread_in (s : ByteArray) (a w : Nat) (W : World) (hs : s.size ≤ 281474976710656) (ha : a ≤ s.size) (h1 : 1 ≤ w) (h8 : w ≤ 8) :
    Calls Tryz.prog 124 #[.string s, .int .i64 a, .int .i64 w] W fun e w' => e = .returned (Tri (readG s a w).1 (readG s a w).2.1 (readG s a w).2.2) ∧ W = w' := by
  have hR : readG s a w = if (s.size : Int) - (a : Int) < (w : Int) then (0, 0, 2) else if 9223372036854775808 ≤ bv ((s.data.toList.drop a).take w) then (0, 0, 3) else (((bv ((s.data.toList.drop a).take w) : Nat) : Int), (a : Int) + (w : Int), 0) := by
    unfold readG
    rw [if_neg (by omega)]
    rfl
  have q1 : decide ((a : Int) < 0) = false := decide_eq_false (by omega)
  have q2 : decide ((s.size : Int) < (a : Int)) = false := decide_eq_false (by omega)
  have q3 : decide (s.size < a) = false := decide_eq_false (by omega)
  have q4 : decide ((w : Int) < 1) = false := decide_eq_false (by omega)
  have q5 : decide ((8 : Int) < (w : Int)) = false := decide_eq_false (by omega)
  by_cases hc : (s.size : Int) - (a : Int) < (w : Int)
  · rw [if_pos hc] at hR
    have HR := Lib.hid hR
    clear hR
    go_enter Tryz.func124, Tryz.ntmps124
    go_wp2
    go_ret3
    exact ⟨by rw [HR.out]; rfl, rfl⟩
  · rw [if_neg hc] at hR
    have hin : a + w ≤ s.size := by omega
    have d1 : decide ((s.size : Int) - (a : Int) < (w : Int)) = false := decide_eq_false hc
    have HR := Lib.hid hR
    clear hR hc
    go_enter Tryz.func124, Tryz.ntmps124
    go_wp2
    go_loop [9, 10] (fun x i => ∃ k : Nat, k ≤ w ∧ i = .int .i64 k ∧ x = .int .u64 (bv ((s.data.toList.drop a).take k) : Nat)) (fun _ i => w - (intOf i).toNat)
    case atStart => exact ⟨0, by omega, rfl, rfl⟩
    case round =>
      obtain ⟨k, hk, rfl, rfl⟩ := hrel
      by_cases hkw : k < w
      · have hak : a + k < s.size := by omega
        have hsn := take_drop_snoc hak
        have hlt := bv_take_lt (s.data.toList.drop a) (k := k) (by omega)
        have HS : Hid (bv ((s.data.toList.drop a).take (k + 1)) = bv ((s.data.toList.drop a).take k) * 256 + s[a + k].toNat) := Lib.hid (by rw [hsn, bv_snoc])
        have hb := toNat_lt s[a + k]
        clear hsn
        generalize bv ((s.data.toList.drop a).take k) = x at *
        have e1 : (x : Int) * 256 + (s[a + k].toNat : Int) = ((x * 256 + s[a + k].toNat : Nat) : Int) := by omega
        have e2 : x * 256 + s[a + k].toNat ≤ 18446744073709551615 := by omega
        generalize x * 256 + s[a + k].toNat = y at *
        go_wp2
        go_round
        case rel => exact ⟨k + 1, by omega, by go_num, by rw [HS.out]⟩
        case measure => simp [intOf]; omega
      · obtain rfl : k = w := by omega
        have hv := bv_take_lt8 (s.data.toList.drop a) (k := k) (by omega)
        generalize bv ((s.data.toList.drop a).take k) = v at *
        by_cases hbig : 9223372036854775808 ≤ v
        · have H1 : Hid (readG s a k = (0, 0, 3)) := Lib.hid (by rw [HR.out, if_pos hbig])
          have e1 : decide (9223372036854775808 ≤ (v : Int)) = true := decide_eq_true (by omega)
          clear HR hbig hv
          go_wp2
          go_ret3
          exact ⟨by rw [H1.out]; rfl, rfl⟩
        · have H1 : Hid (readG s a k = ((v : Int), (a : Int) + (k : Int), 0)) := Lib.hid (by rw [HR.out, if_neg hbig])
          have e1 : decide (9223372036854775808 ≤ (v : Int)) = false := decide_eq_false (by omega)
          have hv2 : v ≤ 9223372036854775807 := by omega
          clear HR hbig hv
          go_wp2
          go_ret3
          exact ⟨by rw [H1.out]; rfl, rfl⟩
theorem rread_out (s : ByteArray) (p w : Int) (W : World) (h : p < 0 ∨ (s.size : Int) < p ∨ w < 1 ∨ 8 < w) :
    Calls Tryz.prog 124 #[.string s, .int .i64 p, .int .i64 w] W fun e w' => e = .returned (Tri 0 0 1) ∧ W = w' := by
  by_cases h1 : p < 0
  · clear h
    go_enter Tryz.func124, Tryz.ntmps124
    go_wp2
    go_ret3
    exact ⟨rfl, rfl⟩
  · have q1 : decide (p < 0) = false := decide_eq_false h1
    by_cases h2 : (s.size : Int) < p
    · have q2 : decide ((s.size : Int) < p) = true := decide_eq_true h2
      clear h
      go_enter Tryz.func124, Tryz.ntmps124
      go_wp2
      go_ret3
      exact ⟨rfl, rfl⟩
    · have q2 : decide ((s.size : Int) < p) = false := decide_eq_false h2
      by_cases h3 : w < 1
      · have q3 : decide (w < 1) = true := decide_eq_true h3
        clear h
        go_enter Tryz.func124, Tryz.ntmps124
        go_wp2
        go_ret3
        exact ⟨rfl, rfl⟩
      · have q3 : decide (w < 1) = false := decide_eq_false h3
        have q4 : decide (8 < w) = true := decide_eq_true (by omega)
        clear h
        go_enter Tryz.func124, Tryz.ntmps124
        go_wp2
        go_ret3
        exact ⟨rfl, rfl⟩
theorem rread_c (s : ByteArray) (p w : Int) (W : World) (hs : s.size ≤ 281474976710656) :
    Calls Tryz.prog 124 #[.string s, .int .i64 p, .int .i64 w] W fun e w' => e = .returned (Tri (readG s p w).1 (readG s p w).2.1 (readG s p w).2.2) ∧ W = w' := by
  by_cases h : p < 0 ∨ (s.size : Int) < p ∨ w < 1 ∨ 8 < w
  · have e : readG s p w = (0, 0, 1) := by unfold readG; rw [if_pos h]
    rw [e]
    exact rread_out s p w W h
  · obtain ⟨a, rfl⟩ : ∃ a : Nat, p = a := ⟨p.toNat, by omega⟩
    obtain ⟨m, rfl⟩ : ∃ m : Nat, w = m := ⟨w.toNat, by omega⟩
    exact rread_in s a m W hs (by omega) (by omega) (by omega)
end Go.Proofs.YtjnphajkoopkgaaGreatDoor
/- The body that stands at a place: the program's bodyAt. Condition: the table of sums. -/
namespace Go.Proofs.YtjnphajkoopkgaaGreatDoor
open Go.RowKit
set_option linter.unusedVariables false
def rd4 (s : ByteArray) (a : Nat) : Nat := bv ((s.data.toList.drop a).take 4)
theorem rd4_lt (s : ByteArray) (a : Nat) : rd4 s a < 4294967296 := by
  have h := bv_lt ((s.data.toList.drop a).take 4)
  have hl : ((s.data.toList.drop a).take 4).length ≤ 4 := by rw [List.length_take]; omega
  have h2 : 256 ^ ((s.data.toList.drop a).take 4).length ≤ 256 ^ 4 := Nat.pow_le_pow_right (by decide) hl
  unfold rd4
  have h3 : (256 : Nat) ^ 4 = 4294967296 := by decide
  omega
theorem readG_out {s : ByteArray} {p : Int} (h : p < 0 ∨ (s.size : Int) < p) : readG s p 4 = (0, 0, 1) := by
  unfold readG
  rw [if_pos (by rcases h with h | h <;> simp [h])]
theorem readG_few {s : ByteArray} {a : Nat} (h : a ≤ s.size) (h4 : s.size < a + 4) : readG s (a : Int) 4 = (0, 0, 2) := by
  unfold readG
  rw [if_neg (by omega), if_pos (by omega)]
theorem readG_in {s : ByteArray} {a : Nat} (h4 : a + 4 ≤ s.size) : readG s (a : Int) 4 = (((rd4 s a : Nat) : Int), ((a + 4 : Nat) : Int), 0) := by
  have h := rd4_lt s a
  unfold rd4 at h
  unfold readG rd4
  rw [if_neg (by omega), if_neg (by omega)]
  simp only [Int.toNat_natCast, show (4 : Int).toNat = 4 from rfl]
  rw [if_neg (by omega)]
  simp
/-- The body that stands at a place. -/
def bodyG (s : ByteArray) (p : Int) : ByteArray × Int × Int :=
  if p < 0 ∨ (s.size : Int) < p then (⟨#[]⟩, 0, 1) else
  if s.size < p.toNat + 8 then (⟨#[]⟩, 0, 2) else
  if 60000 < rd4 s p.toNat then (⟨#[]⟩, 0, 3) else
  if s.size < p.toNat + 8 + rd4 s p.toNat then (⟨#[]⟩, 0, 2) else
  if sumN (s.extract (p.toNat + 8) (p.toNat + 8 + rd4 s p.toNat)) ≠ rd4 s (p.toNat + 4) then (⟨#[]⟩, 0, 4) else
  (s.extract (p.toNat + 8) (p.toNat + 8 + rd4 s p.toNat), ((p.toNat + 8 + rd4 s p.toNat : Nat) : Int), 0)
def bodyV (t : ByteArray × Int × Int) : Value := .tuple #[.string t.1, .int .i64 t.2.1, .int .i64 t.2.2]
set_option maxHeartbeats 8000000 in
set_option maxRecDepth 100000 in
theorem pbodyAt_c (s : ByteArray) (p : Int) (W : World) (hs : s.size ≤ 140737488351232) (hT : Tab W) :
    Calls Tryz.prog 83 #[.string s, .int .i64 p] W (Good W (bodyV (bodyG s p))) := by
  have c1 := fun w => read_c s p 4 w (by omega)
  unfold bodyG bodyV
  by_cases h1 : p < 0 ∨ (s.size : Int) < p
  · rw [if_pos h1]
    rw [readG_out h1] at c1
    unfold Tri at c1
    clear h1
    go_enter Tryz.func83, Tryz.ntmps83
    go_wp2_with ((with_reducible refine (c1 _).mono ?_); rintro e w1 ⟨rfl, rfl⟩)
    go_ret3
    exact ⟨rfl, Below.refl _ _⟩
  · rw [if_neg h1]
    obtain ⟨a, rfl⟩ : ∃ a : Nat, p = a := ⟨p.toNat, by omega⟩
    rw [Int.toNat_natCast]
    have ha : a ≤ s.size := by omega
    clear h1
    by_cases h2 : s.size < a + 8
    · rw [if_pos h2]
      by_cases h3 : s.size < a + 4
      · rw [readG_few ha h3] at c1
        unfold Tri at c1
        clear h2 h3
        go_enter Tryz.func83, Tryz.ntmps83
        go_wp2_with ((with_reducible refine (c1 _).mono ?_); rintro e w1 ⟨rfl, rfl⟩)
        go_ret3
        exact ⟨rfl, Below.refl _ _⟩
      · rw [readG_in (by omega)] at c1
        have c2 := fun w => read_c s ((a + 4 : Nat) : Int) 4 w (by omega)
        rw [readG_few (by omega) (by omega)] at c2
        unfold Tri at c1 c2
        generalize rd4 s a = n at *
        generalize (((a + 4 : Nat) : Int)) = q at *
        clear h2 h3
        go_enter Tryz.func83, Tryz.ntmps83
        go_wp2_with fail
        (with_reducible refine (c1 _).mono ?_)
        rintro e w1 ⟨rfl, rfl⟩
        go_wp2_with fail
        (with_reducible refine (c2 _).mono ?_)
        rintro e w2 ⟨rfl, rfl⟩
        go_wp2
        go_ret3
        exact ⟨rfl, Below.refl _ _⟩
    · rw [if_neg h2]
      rw [readG_in (by omega)] at c1
      have c2 := fun w => read_c s ((a + 4 : Nat) : Int) 4 w (by omega)
      rw [readG_in (by omega)] at c2
      have hn := rd4_lt s a
      have hm := rd4_lt s (a + 4)
      unfold Tri at c1 c2
      have hq : ((a + 4 + 4 : Nat) : Int) = (a : Int) + 8 := by omega
      rw [hq] at c2
      clear hq
      by_cases h3 : 60000 < rd4 s a
      · rw [if_pos h3]
        generalize rd4 s (a + 4) = m at *
        generalize rd4 s a = n at *
        generalize (((a + 4 : Nat) : Int)) = q at *
        have h3' : (60000 : Int) < (n : Int) := by omega
        clear h2 h3
        go_enter Tryz.func83, Tryz.ntmps83
        go_wp2_with fail
        (with_reducible refine (c1 _).mono ?_)
        rintro e w1 ⟨rfl, rfl⟩
        go_wp2_with fail
        (with_reducible refine (c2 _).mono ?_)
        rintro e w2 ⟨rfl, rfl⟩
        go_wp2
        go_ret3
        exact ⟨rfl, Below.refl _ _⟩
      · rw [if_neg h3]
        have h3' : (rd4 s a : Int) ≤ 60000 := by omega
        by_cases h4 : s.size < a + 8 + rd4 s a
        · rw [if_pos h4]
          generalize rd4 s (a + 4) = m at *
          generalize rd4 s a = n at *
          generalize (((a + 4 : Nat) : Int)) = q at *
          have h4' : (s.size : Int) - ((a : Int) + 8) < (n : Int) := by omega
          clear h2 h3 h4
          go_enter Tryz.func83, Tryz.ntmps83
          go_wp2_with fail
          (with_reducible refine (c1 _).mono ?_)
          rintro e w1 ⟨rfl, rfl⟩
          go_wp2_with fail
          (with_reducible refine (c2 _).mono ?_)
          rintro e w2 ⟨rfl, rfl⟩
          go_wp2
          go_ret3
          exact ⟨rfl, Below.refl _ _⟩
        · rw [if_neg h4]
          have hsl := fun w => slice_str (P := Tryz.prog) w 9 s (a + 8) (a + 8 + rd4 s a) Tryz.underlying9 (by omega) (by omega)
          have cs := fun w hw => CR.sum_c (s.extract (a + 8) (a + 8 + rd4 s a)) w (by unfold maxLen; rw [ByteArray.size_extract]; omega) hw
          change ∀ w, Tab w → Calls _ _ _ _ (fun e w' => e = .returned (.int .u32 (sumN (s.extract (a + 8) (a + 8 + rd4 s a)) : Nat)) ∧ w = w') at cs
          have hsm := sumN_lt (s.extract (a + 8) (a + 8 + rd4 s a))
          have hq8 : ((a + 8 : Nat) : Int) = (a : Int) + 8 := by omega
          have hqn : ((a + 8 + rd4 s a : Nat) : Int) = (a : Int) + 8 + (rd4 s a : Int) := by omega
          rw [hq8, hqn] at hsl
          rw [hqn]
          clear hq8 hqn
          generalize s.extract (a + 8) (a + 8 + rd4 s a) = t at *
          generalize sumN t = sm at *
          generalize rd4 s (a + 4) = m at *
          generalize rd4 s a = n at *
          generalize (((a + 4 : Nat) : Int)) = q at *
          have h4' : ¬ (s.size : Int) - ((a : Int) + 8) < (n : Int) := by omega
          clear h2 h3 h4
          by_cases h5 : sm = m
          · rw [if_neg (by omega)]
            subst h5
            go_enter Tryz.func83, Tryz.ntmps83
            go_wp2_with fail
            (with_reducible refine (c1 _).mono ?_)
            rintro e w1 ⟨rfl, rfl⟩
            go_wp2_with fail
            (with_reducible refine (c2 _).mono ?_)
            rintro e w2 ⟨rfl, rfl⟩
            go_wp2_with fail
            (with_reducible refine (cs _ hT).mono ?_)
            rintro e w3 ⟨rfl, rfl⟩
            go_wp2
            go_ret3
            exact ⟨rfl, Below.refl _ _⟩
          · rw [if_pos h5]
            have h5' : ((sm : Int) == (m : Int)) = false := by rw [beq_eq_false_iff_ne]; omega
            go_enter Tryz.func83, Tryz.ntmps83
            go_wp2_with fail
            (with_reducible refine (c1 _).mono ?_)
            rintro e w1 ⟨rfl, rfl⟩
            go_wp2_with fail
            (with_reducible refine (c2 _).mono ?_)
            rintro e w2 ⟨rfl, rfl⟩
            go_wp2_with fail
            (with_reducible refine (cs _ hT).mono ?_)
            rintro e w3 ⟨rfl, rfl⟩
            go_wp2
            go_ret3
            exact ⟨rfl, Below.refl _ _⟩
end Go.Proofs.YtjnphajkoopkgaaGreatDoor
