/- Whole numbers up to 2^40 as floats of 64 bits, there and back. No condition. -/
import Derived.Laws.FloatArith
namespace Go.Proofs.Ytljgiabaekddlaa
set_option linter.unusedVariables false
/-- A whole number as a float of 64 bits. -/
def fl (n : Int) : Nat := floatOfInt .f64 n
theorem cut_even0 (neg : Bool) (m : Nat) : Ieee.Toward.even.cut neg m 0 = m := by
  unfold Ieee.Toward.cut
  simp [Nat.mod_one]
theorem near_fl (n : Nat) (h0 : n ≠ 0) (hk : n.log2 ≤ 40) (hm : n * 2 ^ (52 - n.log2) < 9007199254740992) : Ieee.double.nearest false n 0 = (n.log2 + 1022) * 4503599627370496 + n * 2 ^ (52 - n.log2) := by
  have hl : Ieee.double.leastPlace = -1074 := by decide
  have hf : Ieee.double.fractionBits = 52 := rfl
  have hb : Ieee.double.binade = 4503599627370496 := by decide
  have hi : Ieee.double.infRung = 9218868437227405312 := by decide
  unfold Ieee.Format.nearest
  rw [if_neg h0]
  simp only [hl, hf, hb, hi]
  generalize n.log2 = k at *
  have e1 : max ((0 : Int) + (k : Int) - ((52 : Nat) : Int)) (-1074) = (k : Int) - 52 := by omega
  rw [e1]
  have e2 : ((0 : Int) - ((k : Int) - 52)).toNat = 52 - k := by omega
  have e3 : ((k : Int) - 52 - 0).toNat = 0 := by omega
  have e4 : ((k : Int) - 52 - (-1074)).toNat = k + 1022 := by omega
  rw [e2, e3, e4, cut_even0, Nat.shiftLeft_eq]
  unfold Ieee.Format.word
  rw [if_neg (by decide)]
  exact Nat.min_eq_left (by omega)
theorem read_fl (k m : Nat) (hk : k ≤ 40) (h1 : 4503599627370496 ≤ m) (h2 : m < 9007199254740992) : Ieee.double.read ((k + 1022) * 4503599627370496 + m) = .number false m ((k : Int) - 52) := by
  have hl : Ieee.double.leastPlace = -1074 := by decide
  have hb : Ieee.double.binade = 4503599627370496 := by decide
  have hi : Ieee.double.infRung = 9218868437227405312 := by decide
  have hs : Ieee.double.signWeight = 9223372036854775808 := by decide
  unfold Ieee.Format.read
  simp only [hl, hb, hi, hs]
  have e1 : ((k + 1022) * 4503599627370496 + m) / 9223372036854775808 = 0 := Nat.div_eq_of_lt (by omega)
  have e2 : ((k + 1022) * 4503599627370496 + m) % 9223372036854775808 = (k + 1022) * 4503599627370496 + m := Nat.mod_eq_of_lt (by omega)
  rw [e1, e2, if_neg (by omega), if_pos (by omega)]
  have e3 : 4503599627370496 + ((k + 1022) * 4503599627370496 + m) % 4503599627370496 = m := by omega
  have e4 : ((k + 1022) * 4503599627370496 + m) / 4503599627370496 - 1 = k + 1022 := by omega
  have e5 : (-1074 : Int) + ((k + 1022 : Nat) : Int) = (k : Int) - 52 := by omega
  rw [e3, e4, e5]
  have e6 : (0 % 2 == 1) = false := rfl
  rw [e6]
theorem cut_zero (n d : Nat) (hd : d ≤ (n * 2 ^ d).log2 + 2) : Ieee.Toward.zero.cut false (n * 2 ^ d) d = n := by
  unfold Ieee.Toward.cut
  simp only [Nat.min_eq_left hd, Nat.shiftLeft_eq, Nat.one_mul]
  rw [Nat.mul_div_cancel _ (Nat.two_pow_pos d)]
  rfl
theorem fl_back_nat (n : Nat) (h : n ≤ 1099511627776) : floatToIntVal .f64 (floatOfInt .f64 (n : Int)) .i64 = some (n : Int) := by
  by_cases h0 : n = 0
  · subst h0; decide
  · have hk : n.log2 ≤ 40 := by
      have h2 : n < 2 ^ 41 := by omega
      have := (Nat.log2_lt h0).2 h2
      omega
    have hlo : 2 ^ n.log2 ≤ n := Nat.log2_self_le h0
    have hhi : n < 2 ^ (n.log2 + 1) := Nat.lt_log2_self
    have hp : 2 ^ n.log2 * 2 ^ (52 - n.log2) = 4503599627370496 := by
      rw [← Nat.pow_add, show n.log2 + (52 - n.log2) = 52 by omega]
    have hm1 : 4503599627370496 ≤ n * 2 ^ (52 - n.log2) := by rw [← hp]; exact Nat.mul_le_mul_right _ hlo
    have hm2 : n * 2 ^ (52 - n.log2) < 9007199254740992 := by
      have := Nat.mul_lt_mul_of_pos_right hhi (Nat.two_pow_pos (52 - n.log2))
      rw [Nat.pow_succ, Nat.mul_right_comm, hp] at this
      omega
    have e1 : floatOfInt .f64 (n : Int) = (n.log2 + 1022) * 4503599627370496 + n * 2 ^ (52 - n.log2) := by
      rw [← near_fl n h0 hk hm2]
      show Ieee.double.nearest (decide ((n : Int) < 0)) (n : Int).natAbs 0 = _
      rw [decide_eq_false (by omega), Int.natAbs_natCast]
    have hlg : 52 - n.log2 ≤ (n * 2 ^ (52 - n.log2)).log2 + 2 := by
      have h3 : n * 2 ^ (52 - n.log2) ≠ 0 := by omega
      have := (Nat.le_log2 h3 (k := 52)).2 (by omega)
      omega
    have e2 : (FloatKind.f64.decode (floatOfInt .f64 (n : Int))).toInt .zero = some (n : Int) := by
      rw [e1]
      show (Ieee.double.read _).toInt .zero = _
      rw [read_fl _ _ hk hm1 hm2]
      unfold Ieee.Datum.toInt Ieee.Datum.integral
      simp only
      have e3 : ((n.log2 : Int) - 52).toNat = 0 := by omega
      have e4 : (-((n.log2 : Int) - 52)).toNat = 52 - n.log2 := by omega
      rw [e3, e4, Nat.shiftLeft_zero, cut_zero _ _ hlg]
      simp [Ieee.signed]
    unfold floatToIntVal
    rw [e2]
    simp only
    rw [if_pos]
    have e5 : IntKind.i64.min = -9223372036854775808 := by decide
    have e6 : IntKind.i64.max = 9223372036854775807 := by decide
    rw [e5, e6]
    omega
theorem fl_back {n : Int} (h0 : 0 ≤ n) (h : n ≤ 1099511627776) : floatToIntVal .f64 (fl n) .i64 = some n := by
  obtain ⟨m, rfl⟩ : ∃ m : Nat, n = m := ⟨n.toNat, by omega⟩
  exact fl_back_nat m (by omega)
end Go.Proofs.Ytljgiabaekddlaa
