/- The document's Fixed by one contract. No condition. -/
import Derived.Test.YtneholfghffpfaaNum
import Derived.WalkKit
import Derived.ProofKit
import Derived.LoopTactic
import Derived.Lib.Hide
import Derived.ScopeJumps
import Derived.WalkMore
import Derived.WalkLawsBesides
import Derived.IntWalk
import Derived.Deep.RegionWith
import Derived.Laws.Concat
import Derived.Laws.DeepStrings4
namespace Go.Proofs.Ytneholfghffpfaa
open Go.RowKit
set_option linter.unusedVariables false
set_option maxHeartbeats 1000000 in
set_option maxRecDepth 100000 in
theorem rfixed_in (n w : Nat) (W : World) (hn : n ≤ 9223372036854775807) (h1 : 1 ≤ w) (h8 : w ≤ 8) :
    Calls Try.prog 52 #[.int .i64 n, .int .i64 w] W (Good W (.tuple #[.string (fixG n w).1, .int .i64 (fixG n w).2])) := by
  obtain ⟨i0, hi, hz0, hz1, hz2⟩ := info_parts info5
  obtain ⟨W1, hmk, hB, hbel1, hsz1⟩ := make_bytes (P := Try.prog) 36 5 i0 Try.underlying36 hi hz0 hz1 hz2 .i64 .i64 w (by omega) W
  have hst : FixAt W 5 w w n w n (List.replicate w 0) W1 :=
    ⟨hB, hbel1, by simp, by rw [List.drop_of_length_le (by rw [List.length_take]; omega), List.append_nil], by simp⟩
  have HST := Lib.hid hst
  have hfx : Hid (fixG n w = if n / 256 ^ w ≠ 0 then (⟨#[]⟩, 1) else (⟨(be w n).toArray⟩, 0)) := Lib.hid (by
    unfold fixG
    have e : ((w : Int) < 1 ∨ 8 < (w : Int) ∨ (n : Int) < 0 ∨ (n : Int).toNat / 256 ^ (w : Int).toNat ≠ 0) ↔ n / 256 ^ w ≠ 0 := by
      simp only [Int.toNat_natCast]
      constructor
      · rintro (h | h | h | h)
        · omega
        · omega
        · omega
        · exact h
      · exact fun h => .inr (.inr (.inr h))
    by_cases hh : n / 256 ^ w ≠ 0
    · rw [if_pos (e.2 hh), if_pos hh]
    · rw [if_neg (mt e.1 hh), if_neg hh]; rfl)
  have d0 : decide ((n : Int) < 0) = false := decide_eq_false (by omega)
  have d1 : decide ((w : Int) < 1) = false := decide_eq_false (by omega)
  have d2 : decide ((8 : Int) < (w : Int)) = false := decide_eq_false (by omega)
  clear hst hB hbel1
  go_enter Try.func52, Try.ntmps52
  go_wp2
  go_loopw [0, 7] (fun x j wr => ∃ (i m : Nat) (L : List UInt8), i ≤ w ∧ j = .int .i64 ((i : Int) - 1) ∧ x = .int .i64 m ∧ m ≤ 9223372036854775807 ∧ FixAt W 5 w w n i m L wr) (fun _ j _ => (intOf j + 1).toNat)
  case atStart => exact ⟨w, n, _, by omega, rfl, rfl, hn, HST.out⟩
  case round =>
    obtain ⟨i, m, L, hi, rfl, rfl, hm, hR⟩ := hrel
    by_cases h0 : 0 < i
    · obtain ⟨i, rfl⟩ : ∃ k, i = k + 1 := ⟨i - 1, by omega⟩
      have HS := Lib.hid (hR.step (by omega) (by omega))
      have hil : i < w := by omega
      have hfr := hR.row.frozen (j := i) hil
      obtain ⟨v0, hcell⟩ := hR.row.there (j := i) hil
      have hb : (m : Int) % 256 = ((m % 256 : Nat) : Int) := by omega
      have hbl : m % 256 < 256 := Nat.mod_lt _ (by decide)
      have hd : (m : Int) / 256 = ((m / 256 : Nat) : Int) := by omega
      have hdm : m / 256 ≤ 9223372036854775807 := by omega
      clear hR
      generalize m % 256 = b at *
      generalize m / 256 = q at *
      go_wp2
      go_roundw
      case rel => exact ⟨i, q, _, by omega, rfl, rfl, hdm, HS.out⟩
      case measure => simp [intOf]
    · obtain rfl : i = 0 := by omega
      have hbel := hR.bel
      have hq := hR.quo
      rw [Nat.sub_zero] at hq
      have htext := (hR.row.take w).text (P := Try.prog) 36 9 w w Try.underlying36 Try.underlying5 Try.underlying9 (by rw [List.length_take, hR.len]; omega)
      have hall := hR.all
      rw [List.drop_zero, be, List.nil_append] at hall
      rw [hall] at htext
      by_cases hz : m = 0
      · have H1 : Hid (fixG n w = (⟨(be w n).toArray⟩, 0)) := Lib.hid (by rw [hfx.out, if_neg (by omega)])
        clear hR hall hq hfx
        subst hz
        generalize (⟨(be w n).toArray⟩ : ByteArray) = r at *
        go_wp2
        go_ret2
        exact ⟨by rw [H1.out]; rfl, hbel⟩
      · have H1 : Hid (fixG n w = (⟨#[]⟩, 1)) := Lib.hid (by rw [hfx.out, if_pos (by omega)])
        have hg : 0 < m := by omega
        clear hR hall hq hfx htext
        go_wp2
        go_ret2
        exact ⟨by rw [H1.out]; rfl, hbel⟩
theorem rfixed_out (n w : Int) (W : World) (h : w < 1 ∨ 8 < w ∨ n < 0) :
    Calls Try.prog 52 #[.int .i64 n, .int .i64 w] W (Good W (.tuple #[.string ⟨#[]⟩, .int .i64 1])) := by
  by_cases h1 : w < 1
  · clear h
    go_enter Try.func52, Try.ntmps52
    go_wp2
    go_ret2
    exact ⟨rfl, Below.refl _ _⟩
  · have q1 : decide (w < 1) = false := decide_eq_false h1
    by_cases h2 : 8 < w
    · have q2 : decide (8 < w) = true := decide_eq_true h2
      clear h
      go_enter Try.func52, Try.ntmps52
      go_wp2
      go_ret2
      exact ⟨rfl, Below.refl _ _⟩
    · have q2 : decide (8 < w) = false := decide_eq_false h2
      have q3 : decide (n < 0) = true := decide_eq_true (by omega)
      clear h
      go_enter Try.func52, Try.ntmps52
      go_wp2
      go_ret2
      exact ⟨rfl, Below.refl _ _⟩
theorem rfixed_c (n w : Int) (W : World) (hn : n ≤ 9223372036854775807) :
    Calls Try.prog 52 #[.int .i64 n, .int .i64 w] W (Good W (.tuple #[.string (fixG n w).1, .int .i64 (fixG n w).2])) := by
  by_cases h : w < 1 ∨ 8 < w ∨ n < 0
  · have e : fixG n w = (⟨#[]⟩, 1) := by
      unfold fixG
      rw [if_pos (by rcases h with h | h | h <;> simp [h])]
    rw [e]
    exact rfixed_out n w W h
  · obtain ⟨m, rfl⟩ : ∃ m : Nat, n = m := ⟨n.toNat, by omega⟩
    obtain ⟨k, rfl⟩ : ∃ k : Nat, w = k := ⟨w.toNat, by omega⟩
    exact rfixed_in m k W (by omega) (by omega) (by omega)
end Go.Proofs.Ytneholfghffpfaa
