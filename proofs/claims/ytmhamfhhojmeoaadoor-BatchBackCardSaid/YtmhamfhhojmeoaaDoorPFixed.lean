/- varint.Fixed by one contract. No condition. -/
import Derived.Test.YtmhamfhhojmeoaaDoorPRead
import Derived.WalkKit
import Derived.ProofKit
import Derived.LoopTactic
import Derived.Lib.Hide
import Derived.ScopeJumps
import Derived.WalkMore
import Derived.WalkLawsBesides
import Derived.IntWalk
import Derived.Deep.RegionWith
import Derived.Laws.Concat
import Derived.Laws.DeepStrings4
namespace Go.Proofs.YtmhamfhhojmeoaaDoor
open Go.RowKit
set_option linter.unusedVariables false
set_option maxHeartbeats 1000000 in
set_option maxRecDepth 100000 in
theorem fixed_in (n w : Nat) (W : World) (hn : n ≤ 9223372036854775807) (h1 : 1 ≤ w) (h8 : w ≤ 8) (hq : n / 256 ^ w = 0) :
    Calls Tryd.prog 24 #[.int .i64 n, .int .i64 w] W (Good W (.tuple #[.string ⟨(be w n).toArray⟩, .int .i64 0])) := by
  have cd := wide_c w W
  rw [decide_eq_true (show 1 ≤ (w : Int) ∧ (w : Int) ≤ 8 by omega)] at cd
  have hst : FixAt W 79 8 w n w n (List.replicate 8 0) (W.alloc (.cells (Array.replicate 8 (.int .u8 0)) 79)) :=
    ⟨zero_row W 79 8, (Below.refl _ _).alloc (Nat.le_refl _) _, by simp, by rw [List.drop_of_length_le (by rw [List.length_take]; omega), List.append_nil], by simp⟩
  have HST := Lib.hid hst
  have d0 : decide ((n : Int) < 0) = false := decide_eq_false (by omega)
  have e8 : (2 : Nat) ^ (8 * w) = 256 ^ w := by rw [show (256 : Nat) = 2 ^ 8 from rfl, ← Nat.pow_mul]
  have hsh : (n : Int) / 2 ^ (8 * w) = 0 := by
    have h2 : ((n / 2 ^ (8 * w) : Nat) : Int) = 0 := by rw [e8, hq]; rfl
    simpa using h2
  clear hst
  go_enter Tryd.func24, Tryd.ntmps24
  go_wp2_with ((with_reducible refine cd.mono ?_); rintro e w' ⟨rfl, rfl⟩)
  clear hsh e8 hq
  go_loopw [0, 7] (fun x j wr => ∃ (i m : Nat) (L : List UInt8), i ≤ w ∧ j = .int .i64 ((i : Int) - 1) ∧ x = .int .i64 m ∧ m ≤ 9223372036854775807 ∧ FixAt W 79 8 w n i m L wr) (fun _ j _ => (intOf j + 1).toNat)
  case atStart => exact ⟨w, n, _, by omega, rfl, rfl, hn, HST.out⟩
  case round =>
    obtain ⟨i, m, L, hi, rfl, rfl, hm, hR⟩ := hrel
    by_cases h0 : 0 < i
    · obtain ⟨i, rfl⟩ : ∃ k, i = k + 1 := ⟨i - 1, by omega⟩
      have HS := Lib.hid (hR.step (by omega) (by omega))
      have hil : i < 8 := by omega
      have hfr := hR.row.frozen (j := i) hil
      obtain ⟨v0, hcell⟩ := hR.row.there (j := i) hil
      have hb : (m : Int) % 256 = ((m % 256 : Nat) : Int) := by omega
      have hd : (m : Int) / 256 = ((m / 256 : Nat) : Int) := by omega
      have hdm : m / 256 ≤ 9223372036854775807 := by omega
      clear hR
      generalize m % 256 = b at *
      generalize m / 256 = q at *
      go_wp2
      go_roundw
      case rel => exact ⟨i, q, _, by omega, rfl, rfl, hdm, HS.out⟩
      case measure => simp [intOf]
    · obtain rfl : i = 0 := by omega
      have hbel := hR.bel
      have hsl : ∀ W1, (Instr.sliceAt 79 (.pointer (some ⟨W.heap.size, 0, none⟩)) none (some (.int .i64 (w : Int))) none).run Tryd.prog W1 = .ok (.slice (some ⟨W.heap.size, 0, none⟩) w 8) W1 := fun W1 =>
        slice_head (P := Tryd.prog) W1 79 5 W.heap.size w 8 Tryd.underlying79 (by kernel_rfl) h8
      have htext := (hR.row.take w).text (P := Tryd.prog) 43 9 8 w Tryd.underlying43 Tryd.underlying5 Tryd.underlying9 (by rw [List.length_take, hR.len]; omega)
      have hall := hR.all
      rw [List.drop_zero, be, List.nil_append] at hall
      rw [hall] at htext
      clear hR hall
      generalize (⟨(be w n).toArray⟩ : ByteArray) = r at *
      go_wp2
      go_ret2
      exact ⟨rfl, hbel⟩
theorem fixed_out (n w : Int) (W : World) (hn : n ≤ 9223372036854775807) (h : w < 1 ∨ 8 < w ∨ n < 0 ∨ n.toNat / 256 ^ w.toNat ≠ 0) :
    Calls Tryd.prog 24 #[.int .i64 n, .int .i64 w] W (Good W (.tuple #[.string ⟨#[]⟩, .int .i64 1])) := by
  have cd := wide_c w W
  by_cases hw : 1 ≤ w ∧ w ≤ 8
  · rw [decide_eq_true hw] at cd
    by_cases h0 : n < 0
    · have d0 : decide (n < 0) = true := decide_eq_true h0
      clear h
      go_enter Tryd.func24, Tryd.ntmps24
      go_wp2_with ((with_reducible refine cd.mono ?_); rintro e w' ⟨rfl, rfl⟩)
      go_ret2
      exact ⟨rfl, Below.refl _ _⟩
    · obtain ⟨m, rfl⟩ : ∃ m : Nat, n = m := ⟨n.toNat, by omega⟩
      obtain ⟨k, rfl⟩ : ∃ k : Nat, w = k := ⟨w.toNat, by omega⟩
      have d0 : decide ((m : Int) < 0) = false := decide_eq_false h0
      have hq : m / 256 ^ k ≠ 0 := by
        rcases h with h | h | h | h
        · omega
        · omega
        · omega
        · simpa using h
      have e8 : (2 : Nat) ^ (8 * k) = 256 ^ k := by rw [show (256 : Nat) = 2 ^ 8 from rfl, ← Nat.pow_mul]
      have hsh : (m : Int) / 2 ^ (8 * k) = ((m / 256 ^ k : Nat) : Int) := by rw [← e8]; simp
      have hne : (((m / 256 ^ k : Nat) : Int) != 0) = true := by simp only [bne_iff_ne]; omega
      generalize m / 256 ^ k = q at *
      clear h e8 hq
      go_enter Tryd.func24, Tryd.ntmps24
      go_wp2_with ((with_reducible refine cd.mono ?_); rintro e w' ⟨rfl, rfl⟩)
      go_ret2
      exact ⟨rfl, Below.refl _ _⟩
  · rw [decide_eq_false hw] at cd
    clear h
    go_enter Tryd.func24, Tryd.ntmps24
    go_wp2_with ((with_reducible refine cd.mono ?_); rintro e w' ⟨rfl, rfl⟩)
    go_ret2
    exact ⟨rfl, Below.refl _ _⟩
theorem fixed_c (n w : Int) (W : World) (hn : n ≤ 9223372036854775807) :
    Calls Tryd.prog 24 #[.int .i64 n, .int .i64 w] W (Good W (.tuple #[.string (fixG n w).1, .int .i64 (fixG n w).2])) := by
  by_cases h : w < 1 ∨ 8 < w ∨ n < 0 ∨ n.toNat / 256 ^ w.toNat ≠ 0
  · have e : fixG n w = (⟨#[]⟩, 1) := by unfold fixG; rw [if_pos h]
    rw [e]
    exact fixed_out n w W hn h
  · have e : fixG n w = (⟨(be w.toNat n.toNat).toArray⟩, 0) := by unfold fixG; rw [if_neg h]
    rw [e]
    have h1 : n.toNat / 256 ^ w.toNat = 0 := by
      rcases Nat.eq_zero_or_pos (n.toNat / 256 ^ w.toNat) with h2 | h2
      · exact h2
      · exact absurd (.inr (.inr (.inr (by omega)))) h
    have hw1 : ¬ w < 1 := fun x => h (.inl x)
    have hw2 : ¬ 8 < w := fun x => h (.inr (.inl x))
    have hn0 : ¬ n < 0 := fun x => h (.inr (.inr (.inl x)))
    clear h e
    obtain ⟨m, rfl⟩ : ∃ m : Nat, n = m := ⟨n.toNat, by omega⟩
    obtain ⟨k, rfl⟩ : ∃ k : Nat, w = k := ⟨w.toNat, by omega⟩
    exact fixed_in m k W (by omega) (by omega) (by omega) (by simpa using h1)
end Go.Proofs.YtmhamfhhojmeoaaDoor
