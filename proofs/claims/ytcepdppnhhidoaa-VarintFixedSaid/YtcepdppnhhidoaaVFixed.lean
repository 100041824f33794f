/- What varint.Fixed and the document's Fixed do at every number and width, and the law VarintFixed. No condition. -/
import Derived.Test.YtcepdppnhhidoaaVRead
namespace Go.Proofs.Ytcepdppnhhidoaa
open Go.RowKit
set_option linter.unusedVariables false
/-- A number's bytes in a width, the greatest first. -/
def be : Nat → Nat → List UInt8
  | 0, _ => []
  | w + 1, n => be w (n / 256) ++ [UInt8.ofNat (n % 256)]
theorem be_len : ∀ (w n : Nat), (be w n).length = w
  | 0, _ => rfl
  | w + 1, n => by rw [be, List.length_append, be_len w]; rfl
theorem zero_row (w : World) (e n : Nat) : BRow (w.alloc (.cells (Array.replicate n (.int .u8 0)) e)) e w.heap.size n (List.replicate n 0) :=
  ⟨_, 0, 0, heap_alloc_new w _, .inl (Nat.le_refl _), by simp, by simp, fun j c hj => by
    have hj' : j < n := by have := (List.getElem?_eq_some_iff.1 hj).1; simpa using this
    have hc : c = 0 := by
      rw [List.getElem?_replicate, if_pos hj'] at hj
      simpa using hj.symm
    subst hc
    simp [hj']⟩
theorem make_bytes {P : Program} (t e : TypeId) (i : TypeInfo) (ht : P.underlying t = some (.slice e)) (hi : P.info? e = some i) (hz : i.zero = some (.int .u8 0)) (hs : i.size = 1) (hb : i.bytes = 1)
    (kl kc : IntKind) (n : Nat) (hn : n ≤ 281474976710656) (w : World) :
    ∃ w1, (Instr.makeSlice t (.int kl (n : Int)) (.int kc (n : Int))).run P w = .ok (.slice (some ⟨w.heap.size, 0, none⟩) n n) w1 ∧ BRow w1 e w.heap.size n (List.replicate n 0) ∧ Below w.heap.size w w1 ∧ w1.heap.size = w.heap.size + 1 := by
  have hr := run_make (P := P) w t e i (.int .u8 0) ht hi hz kl kc n n (by omega) (by omega) (by rw [hb]; omega) (by omega)
  simp only [Int.toNat_natCast] at hr
  refine ⟨_, hr, ⟨_, 0, 0, heap_alloc_new w _, .inl (Nat.le_refl _), ?_, by simp, fun j c hj => ?_⟩, (Below.refl _ _).alloc (Nat.le_refl _) _, by simp⟩
  · simp [madeCells, hs]
  · have hj' : j < n := by have := (List.getElem?_eq_some_iff.1 hj).1; simpa using this
    have hc : c = 0 := by
      rw [List.getElem?_replicate, if_pos hj'] at hj
      simpa using hj.symm
    subst hc
    simp [madeCells, hs, Value.cells, hj', Nat.mod_one]
/-- Half way: i bytes are still to be laid. -/
structure FixAt (W : World) (e cap width n0 i m : Nat) (L : List UInt8) (wr : World) : Prop where
  row : BRow wr e W.heap.size cap L
  bel : Below W.heap.size W wr
  len : L.length = cap
  all : be i m ++ (L.take width).drop i = be width n0
  quo : m = n0 / 256 ^ (width - i)
theorem FixAt.step {W wr : World} {e cap width n0 i m : Nat} {L : List UInt8} (h : FixAt W e cap width n0 (i + 1) m L wr) (hi : i < width) (hw : width ≤ cap) :
    FixAt W e cap width n0 i (m / 256) (L.set i (UInt8.ofNat (m % 256))) (wr.setCell ⟨W.heap.size, i, none⟩ (.int .u8 ((m % 256 : Nat) : Int))) := by
  have hl := h.len
  refine ⟨h.row.set (by omega) (Nat.mod_lt _ (by decide)), h.bel.setCell (Nat.le_refl _) _, by simpa using hl, ?_, ?_⟩
  · rw [← h.all, be, List.append_assoc]
    congr 1
    have h1 : i < (L.set i (UInt8.ofNat (m % 256))).length := by simp; omega
    have h2 : i < ((L.set i (UInt8.ofNat (m % 256))).take width).length := by rw [List.length_take]; omega
    rw [List.drop_eq_getElem_cons h2]
    have h3 : ((L.set i (UInt8.ofNat (m % 256))).take width)[i] = UInt8.ofNat (m % 256) := by
      rw [List.getElem_take, List.getElem_set_self]
    rw [h3, List.take_set, List.drop_set_of_lt (by omega)]
    rfl
  · rw [h.quo, Nat.div_div_eq_div_mul, show width - i = (width - (i + 1)) + 1 by omega, Nat.pow_succ]
/-- What Fixed hands back. -/
def fixG (n w : Int) : ByteArray × Int := if w < 1 ∨ 8 < w ∨ n < 0 ∨ n.toNat / 256 ^ w.toNat ≠ 0 then (⟨#[]⟩, 1) else (⟨(be w.toNat n.toNat).toArray⟩, 0)
set_option maxHeartbeats 1000000 in
set_option maxRecDepth 100000 in
theorem fixed_in (n w : Nat) (W : World) (hn : n ≤ 9223372036854775807) (h1 : 1 ≤ w) (h8 : w ≤ 8) (hq : n / 256 ^ w = 0) :
    Calls Try.prog 16 #[.int .i64 n, .int .i64 w] W (Good W (.tuple #[.string ⟨(be w n).toArray⟩, .int .i64 0])) := by
  have cd := wide_c w W
  rw [decide_eq_true (show 1 ≤ (w : Int) ∧ (w : Int) ≤ 8 by omega)] at cd
  have hst : FixAt W 48 8 w n w n (List.replicate 8 0) (W.alloc (.cells (Array.replicate 8 (.int .u8 0)) 48)) :=
    ⟨zero_row W 48 8, (Below.refl _ _).alloc (Nat.le_refl _) _, by simp, by rw [List.drop_of_length_le (by rw [List.length_take]; omega), List.append_nil], by simp⟩
  have HST := Lib.hid hst
  have d0 : decide ((n : Int) < 0) = false := decide_eq_false (by omega)
  have e8 : (2 : Nat) ^ (8 * w) = 256 ^ w := by rw [show (256 : Nat) = 2 ^ 8 from rfl, ← Nat.pow_mul]
  have hsh : (n : Int) / 2 ^ (8 * w) = 0 := by
    have h2 : ((n / 2 ^ (8 * w) : Nat) : Int) = 0 := by rw [e8, hq]; rfl
    simpa using h2
  clear hst
  go_enter Try.func16, Try.ntmps16
  go_wp2_with ((with_reducible refine cd.mono ?_); rintro e w' ⟨rfl, rfl⟩)
  clear hsh e8 hq
  go_loopw [0, 7] (fun x j wr => ∃ (i m : Nat) (L : List UInt8), i ≤ w ∧ j = .int .i64 ((i : Int) - 1) ∧ x = .int .i64 m ∧ m ≤ 9223372036854775807 ∧ FixAt W 48 8 w n i m L wr) (fun _ j _ => (intOf j + 1).toNat)
  case atStart => exact ⟨w, n, _, by omega, rfl, rfl, hn, HST.out⟩
  case round =>
    obtain ⟨i, m, L, hi, rfl, rfl, hm, hR⟩ := hrel
    by_cases h0 : 0 < i
    · obtain ⟨i, rfl⟩ : ∃ k, i = k + 1 := ⟨i - 1, by omega⟩
      have HS := Lib.hid (hR.step (by omega) (by omega))
      have hil : i < 8 := by omega
      have hfr := hR.row.frozen (j := i) hil
      obtain ⟨v0, hcell⟩ := hR.row.there (j := i) hil
      have hb : (m : Int) % 256 = ((m % 256 : Nat) : Int) := by omega
      have hd : (m : Int) / 256 = ((m / 256 : Nat) : Int) := by omega
      have hdm : m / 256 ≤ 9223372036854775807 := by omega
      clear hR
      generalize m % 256 = b at *
      generalize m / 256 = q at *
      go_wp2
      go_roundw
      case rel => exact ⟨i, q, _, by omega, rfl, rfl, hdm, HS.out⟩
      case measure => simp [intOf]
    · obtain rfl : i = 0 := by omega
      have hbel := hR.bel
      have hsl : ∀ W1, (Instr.sliceAt 48 (.pointer (some ⟨W.heap.size, 0, none⟩)) none (some (.int .i64 (w : Int))) none).run Try.prog W1 = .ok (.slice (some ⟨W.heap.size, 0, none⟩) w 8) W1 := fun W1 =>
        slice_head (P := Try.prog) W1 48 5 W.heap.size w 8 Try.underlying48 (by kernel_rfl) h8
      have htext := (hR.row.take w).text (P := Try.prog) 45 9 8 w Try.underlying45 Try.underlying5 Try.underlying9 (by rw [List.length_take, hR.len]; omega)
      have hall := hR.all
      rw [List.drop_zero, be, List.nil_append] at hall
      rw [hall] at htext
      clear hR hall
      generalize (⟨(be w n).toArray⟩ : ByteArray) = r at *
      go_wp2
      go_ret2
      exact ⟨rfl, hbel⟩
theorem fixed_out (n w : Int) (W : World) (hn : n ≤ 9223372036854775807) (h : w < 1 ∨ 8 < w ∨ n < 0 ∨ n.toNat / 256 ^ w.toNat ≠ 0) :
    Calls Try.prog 16 #[.int .i64 n, .int .i64 w] W (Good W (.tuple #[.string ⟨#[]⟩, .int .i64 1])) := by
  have cd := wide_c w W
  by_cases hw : 1 ≤ w ∧ w ≤ 8
  · rw [decide_eq_true hw] at cd
    by_cases h0 : n < 0
    · have d0 : decide (n < 0) = true := decide_eq_true h0
      clear h
      go_enter Try.func16, Try.ntmps16
      go_wp2_with ((with_reducible refine cd.mono ?_); rintro e w' ⟨rfl, rfl⟩)
      go_ret2
      exact ⟨rfl, Below.refl _ _⟩
    · obtain ⟨m, rfl⟩ : ∃ m : Nat, n = m := ⟨n.toNat, by omega⟩
      obtain ⟨k, rfl⟩ : ∃ k : Nat, w = k := ⟨w.toNat, by omega⟩
      have d0 : decide ((m : Int) < 0) = false := decide_eq_false h0
      have hq : m / 256 ^ k ≠ 0 := by
        rcases h with h | h | h | h
        · omega
        · omega
        · omega
        · simpa using h
      have e8 : (2 : Nat) ^ (8 * k) = 256 ^ k := by rw [show (256 : Nat) = 2 ^ 8 from rfl, ← Nat.pow_mul]
      have hsh : (m : Int) / 2 ^ (8 * k) = ((m / 256 ^ k : Nat) : Int) := by rw [← e8]; simp
      have hne : (((m / 256 ^ k : Nat) : Int) != 0) = true := by simp only [bne_iff_ne]; omega
      generalize m / 256 ^ k = q at *
      clear h e8 hq
      go_enter Try.func16, Try.ntmps16
      go_wp2_with ((with_reducible refine cd.mono ?_); rintro e w' ⟨rfl, rfl⟩)
      go_ret2
      exact ⟨rfl, Below.refl _ _⟩
  · rw [decide_eq_false hw] at cd
    clear h
    go_enter Try.func16, Try.ntmps16
    go_wp2_with ((with_reducible refine cd.mono ?_); rintro e w' ⟨rfl, rfl⟩)
    go_ret2
    exact ⟨rfl, Below.refl _ _⟩
theorem fixed_c (n w : Int) (W : World) (hn : n ≤ 9223372036854775807) :
    Calls Try.prog 16 #[.int .i64 n, .int .i64 w] W (Good W (.tuple #[.string (fixG n w).1, .int .i64 (fixG n w).2])) := by
  by_cases h : w < 1 ∨ 8 < w ∨ n < 0 ∨ n.toNat / 256 ^ w.toNat ≠ 0
  · have e : fixG n w = (⟨#[]⟩, 1) := by unfold fixG; rw [if_pos h]
    rw [e]
    exact fixed_out n w W hn h
  · have e : fixG n w = (⟨(be w.toNat n.toNat).toArray⟩, 0) := by unfold fixG; rw [if_neg h]
    rw [e]
    have h1 : n.toNat / 256 ^ w.toNat = 0 := by
      rcases Nat.eq_zero_or_pos (n.toNat / 256 ^ w.toNat) with h2 | h2
      · exact h2
      · exact absurd (.inr (.inr (.inr (by omega)))) h
    have hw1 : ¬ w < 1 := fun x => h (.inl x)
    have hw2 : ¬ 8 < w := fun x => h (.inr (.inl x))
    have hn0 : ¬ n < 0 := fun x => h (.inr (.inr (.inl x)))
    clear h e
    obtain ⟨m, rfl⟩ : ∃ m : Nat, n = m := ⟨n.toNat, by omega⟩
    obtain ⟨k, rfl⟩ : ∃ k : Nat, w = k := ⟨w.toNat, by omega⟩
    exact fixed_in m k W (by omega) (by omega) (by omega) (by simpa using h1)
set_option maxHeartbeats 1000000 in
set_option maxRecDepth 100000 in
theorem rfixed_in (n w : Nat) (W : World) (hn : n ≤ 9223372036854775807) (h1 : 1 ≤ w) (h8 : w ≤ 8) :
    Calls Try.prog 17 #[.int .i64 n, .int .i64 w] W (Good W (.tuple #[.string (fixG n w).1, .int .i64 (fixG n w).2])) := by
  obtain ⟨i0, hi, hz0, hz1, hz2⟩ := info_parts info5
  obtain ⟨W1, hmk, hB, hbel1, hsz1⟩ := make_bytes (P := Try.prog) 45 5 i0 Try.underlying45 hi hz0 hz1 hz2 .i64 .i64 w (by omega) W
  have hst : FixAt W 5 w w n w n (List.replicate w 0) W1 :=
    ⟨hB, hbel1, by simp, by rw [List.drop_of_length_le (by rw [List.length_take]; omega), List.append_nil], by simp⟩
  have HST := Lib.hid hst
  have hfx : Hid (fixG n w = if n / 256 ^ w ≠ 0 then (⟨#[]⟩, 1) else (⟨(be w n).toArray⟩, 0)) := Lib.hid (by
    unfold fixG
    have e : ((w : Int) < 1 ∨ 8 < (w : Int) ∨ (n : Int) < 0 ∨ (n : Int).toNat / 256 ^ (w : Int).toNat ≠ 0) ↔ n / 256 ^ w ≠ 0 := by
      simp only [Int.toNat_natCast]
      constructor
      · rintro (h | h | h | h)
        · omega
        · omega
        · omega
        · exact h
      · exact fun h => .inr (.inr (.inr h))
    by_cases hh : n / 256 ^ w ≠ 0
    · rw [if_pos (e.2 hh), if_pos hh]
    · rw [if_neg (mt e.1 hh), if_neg hh]; rfl)
  have d0 : decide ((n : Int) < 0) = false := decide_eq_false (by omega)
  have d1 : decide ((w : Int) < 1) = false := decide_eq_false (by omega)
  have d2 : decide ((8 : Int) < (w : Int)) = false := decide_eq_false (by omega)
  clear hst hB hbel1
  go_enter Try.func17, Try.ntmps17
  go_wp2
  go_loopw [0, 7] (fun x j wr => ∃ (i m : Nat) (L : List UInt8), i ≤ w ∧ j = .int .i64 ((i : Int) - 1) ∧ x = .int .i64 m ∧ m ≤ 9223372036854775807 ∧ FixAt W 5 w w n i m L wr) (fun _ j _ => (intOf j + 1).toNat)
  case atStart => exact ⟨w, n, _, by omega, rfl, rfl, hn, HST.out⟩
  case round =>
    obtain ⟨i, m, L, hi, rfl, rfl, hm, hR⟩ := hrel
    by_cases h0 : 0 < i
    · obtain ⟨i, rfl⟩ : ∃ k, i = k + 1 := ⟨i - 1, by omega⟩
      have HS := Lib.hid (hR.step (by omega) (by omega))
      have hil : i < w := by omega
      have hfr := hR.row.frozen (j := i) hil
      obtain ⟨v0, hcell⟩ := hR.row.there (j := i) hil
      have hb : (m : Int) % 256 = ((m % 256 : Nat) : Int) := by omega
      have hbl : m % 256 < 256 := Nat.mod_lt _ (by decide)
      have hd : (m : Int) / 256 = ((m / 256 : Nat) : Int) := by omega
      have hdm : m / 256 ≤ 9223372036854775807 := by omega
      clear hR
      generalize m % 256 = b at *
      generalize m / 256 = q at *
      go_wp2
      go_roundw
      case rel => exact ⟨i, q, _, by omega, rfl, rfl, hdm, HS.out⟩
      case measure => simp [intOf]
    · obtain rfl : i = 0 := by omega
      have hbel := hR.bel
      have hq := hR.quo
      rw [Nat.sub_zero] at hq
      have htext := (hR.row.take w).text (P := Try.prog) 45 9 w w Try.underlying45 Try.underlying5 Try.underlying9 (by rw [List.length_take, hR.len]; omega)
      have hall := hR.all
      rw [List.drop_zero, be, List.nil_append] at hall
      rw [hall] at htext
      by_cases hz : m = 0
      · have H1 : Hid (fixG n w = (⟨(be w n).toArray⟩, 0)) := Lib.hid (by rw [hfx.out, if_neg (by omega)])
        clear hR hall hq hfx
        subst hz
        generalize (⟨(be w n).toArray⟩ : ByteArray) = r at *
        go_wp2
        go_ret2
        exact ⟨by rw [H1.out]; rfl, hbel⟩
      · have H1 : Hid (fixG n w = (⟨#[]⟩, 1)) := Lib.hid (by rw [hfx.out, if_pos (by omega)])
        have hg : 0 < m := by omega
        clear hR hall hq hfx htext
        go_wp2
        go_ret2
        exact ⟨by rw [H1.out]; rfl, hbel⟩
theorem rfixed_out (n w : Int) (W : World) (h : w < 1 ∨ 8 < w ∨ n < 0) :
    Calls Try.prog 17 #[.int .i64 n, .int .i64 w] W (Good W (.tuple #[.string ⟨#[]⟩, .int .i64 1])) := by
  by_cases h1 : w < 1
  · clear h
    go_enter Try.func17, Try.ntmps17
    go_wp2
    go_ret2
    exact ⟨rfl, Below.refl _ _⟩
  · have q1 : decide (w < 1) = false := decide_eq_false h1
    by_cases h2 : 8 < w
    · have q2 : decide (8 < w) = true := decide_eq_true h2
      clear h
      go_enter Try.func17, Try.ntmps17
      go_wp2
      go_ret2
      exact ⟨rfl, Below.refl _ _⟩
    · have q2 : decide (8 < w) = false := decide_eq_false h2
      have q3 : decide (n < 0) = true := decide_eq_true (by omega)
      clear h
      go_enter Try.func17, Try.ntmps17
      go_wp2
      go_ret2
      exact ⟨rfl, Below.refl _ _⟩
theorem rfixed_c (n w : Int) (W : World) (hn : n ≤ 9223372036854775807) :
    Calls Try.prog 17 #[.int .i64 n, .int .i64 w] W (Good W (.tuple #[.string (fixG n w).1, .int .i64 (fixG n w).2])) := by
  by_cases h : w < 1 ∨ 8 < w ∨ n < 0
  · have e : fixG n w = (⟨#[]⟩, 1) := by
      unfold fixG
      rw [if_pos (by rcases h with h | h | h <;> simp [h])]
    rw [e]
    exact rfixed_out n w W h
  · obtain ⟨m, rfl⟩ : ∃ m : Nat, n = m := ⟨n.toNat, by omega⟩
    obtain ⟨k, rfl⟩ : ∃ k : Nat, w = k := ⟨w.toNat, by omega⟩
    exact rfixed_in m k W (by omega) (by omega) (by omega)
theorem i64_le {a : Int} (h : (Lit.int .i64 a).wf = true) : a ≤ 9223372036854775807 := by
  have h1 : -9223372036854775808 ≤ a ∧ a ≤ 9223372036854775807 := by simpa [Lit.wf, IntKind.min, IntKind.max, IntKind.signed, IntKind.bits] using h
  exact h1.2
theorem varintFixed_walk (a0 a1 : Int) (W : World) (w0 : (Lit.int .i64 a0).wf = true) (w1 : (Lit.int .i64 a1).wf = true) :
    Calls Try.prog 5 #[.int .i64 a0, .int .i64 a1] W (fun e w' => e = .returned (.bool true) ∧ Below W.heap.size W w') := by
  have c1 := fun w => fixed_c a0 a1 w (i64_le w0)
  have c2 := fun w => rfixed_c a0 a1 w (i64_le w0)
  clear w0 w1
  generalize (fixG a0 a1).1 = x at *
  generalize (fixG a0 a1).2 = y at *
  go_enter Try.func5, Try.ntmps5
  go_wp2_with (first
    | ((with_reducible refine (c1 _).mono ?_); rintro e w1 ⟨rfl, hb1⟩)
    | ((with_reducible refine (c2 _).mono ?_); rintro e w2 ⟨rfl, hb2⟩)
    | ((with_reducible refine (live_c _).mono ?_); rintro e w3 ⟨rfl, hb3⟩))
  go_ret
  exact ⟨rfl, bjoin (bjoin hb1 hb2 rfl rfl) hb3 rfl rfl⟩
end Go.Proofs.Ytcepdppnhhidoaa
