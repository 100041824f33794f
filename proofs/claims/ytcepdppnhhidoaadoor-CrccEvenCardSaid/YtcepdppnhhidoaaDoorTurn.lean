/- The law CrccTurned walks to true for every text, every place and every run of bits. Condition: the package's table reads as its text lays it. -/
import Derived.Test.YtcepdppnhhidoaaDoorLaws
import Derived.Test.YtcepdppnhhidoaaDoorBytes
namespace Go.Proofs.YtcepdppnhhidoaaDoor
open Go.RowKit
theorem Tab.pos {w : World} (h : Tab w) : 0 < w.heap.size := by
  have h0 := h 0 (by decide)
  rcases Nat.eq_zero_or_pos w.heap.size with hz | hp
  · have : w.heap[0]? = none := Array.getElem?_eq_none (by omega)
    simp [World.cell?, this] at h0
  · exact hp
theorem Tab.later {w w' : World} {B : Nat} (h : Tab w) (hb : Below B w w') (hB : 0 < B) : Tab w' := fun i hi => (hb.cell (p := ⟨0, i, none⟩) hB).trans (h i hi)
def tb (n k : Nat) : Bool := decide (n % 2 ^ k ≠ 0)
theorem tb_zero (n : Nat) : tb n 0 = false := by simp [tb, Nat.mod_one]
theorem mod_succ_bit (n k : Nat) : n % 2 ^ (k + 1) = n % 2 ^ k + 2 ^ k * (n / 2 ^ k % 2) := by rw [Nat.pow_succ, Nat.mod_mul]
theorem mod_xor_bit (n k : Nat) : n % 2 ^ (k + 1) = (n % 2 ^ k) ^^^ 2 ^ k * (n / 2 ^ k % 2) := by
  have h := split_pow k (n % 2 ^ (k + 1))
  have hp : 0 < 2 ^ k := Nat.two_pow_pos k
  have hlt := Nat.mod_lt n hp
  have e1 : n % 2 ^ (k + 1) % 2 ^ k = n % 2 ^ k := by rw [mod_succ_bit, Nat.add_mul_mod_self_left, Nat.mod_mod]
  have e2 : n % 2 ^ (k + 1) / 2 ^ k = n / 2 ^ k % 2 := by
    rw [mod_succ_bit, Nat.add_mul_div_left _ _ hp, Nat.div_eq_of_lt hlt, Nat.zero_add]
  rw [e1, e2] at h
  exact h.symm
theorem tb_yes {n k : Nat} (h : n / 2 ^ k % 2 = 1) : tb n (k + 1) = true := by
  have hp : 0 < 2 ^ k := Nat.two_pow_pos k
  simp only [tb, decide_eq_true_eq]
  rw [mod_succ_bit, h]
  omega
theorem tb_no {n k : Nat} (h : n / 2 ^ k % 2 ≠ 1) : tb n (k + 1) = tb n k := by
  have h0 : n / 2 ^ k % 2 = 0 := by omega
  simp only [tb]
  rw [mod_succ_bit, h0, Nat.mul_zero, Nat.add_zero]
structure Turn (W : World) (s : List UInt8) (cap F n k : Nat) (l : List UInt8) (wr : World) : Prop where
  len : l.length = s.length
  val : num l = num s ^^^ 2 ^ F * (n % 2 ^ k)
  row : BRow wr 5 W.heap.size cap l
  bel : Below W.heap.size W wr
theorem Turn.no {W wr : World} {s l : List UInt8} {cap F n k : Nat} (h : Turn W s cap F n k l wr) (hb : n / 2 ^ k % 2 ≠ 1) : Turn W s cap F n (k + 1) l wr :=
  ⟨h.len, by rw [h.val, mod_succ_bit, show n / 2 ^ k % 2 = 0 by omega, Nat.mul_zero, Nat.add_zero], h.row, h.bel⟩
theorem Turn.yes {W wr : World} {s l : List UInt8} {cap F n k : Nat} (h : Turn W s cap F n k l wr) (hb : n / 2 ^ k % 2 = 1) {c : UInt8} (hc : l[(F + k) / 8]? = some c) :
    Turn W s cap F n (k + 1) (l.set ((F + k) / 8) (UInt8.ofNat (c.toNat ^^^ 2 ^ ((F + k) % 8)))) (wr.setCell ⟨W.heap.size, (F + k) / 8, none⟩ (.int .u8 ((c.toNat ^^^ 2 ^ ((F + k) % 8) : Nat) : Int))) := by
  have hx : 2 ^ ((F + k) % 8) < 256 := Nat.pow_lt_pow_right (by decide) (show (F + k) % 8 < 8 by omega)
  have hj := (List.getElem?_eq_some_iff.1 hc).1
  refine ⟨by simpa using h.len, ?_, h.row.set hj (Nat.xor_lt_two_pow (n := 8) (byte_lt c) hx), h.bel.setCell (Nat.le_refl _) _⟩
  rw [num_set l _ _ _ c hc hx rfl, h.val, mod_xor_bit, hb, Nat.mul_one, mul_xor, Nat.xor_assoc, ← Nat.pow_add, ← Nat.pow_add, show 8 * ((F + k) / 8) + (F + k) % 8 = F + k by omega]
theorem turn_end {W wr : World} {s l : List UInt8} {cap F n k : Nat} (h : Turn W s cap F n k l wr) (hn : n < 4294967296) (hF : F ≤ 8 * s.length) : (tb n k = true ∧ ext 0 l ≠ ext 0 s) ∨ (tb n k = false ∧ ext 0 l = ext 0 s) := by
  by_cases h0 : n % 2 ^ k = 0
  · right
    refine ⟨by simp [tb, h0], ?_⟩
    have hv := h.val
    rw [h0, Nat.mul_zero, Nat.xor_zero] at hv
    rw [num_inj _ _ h.len hv]
  · left
    refine ⟨by simp [tb, h0], ext_turned s l h.len F (n % 2 ^ k) (by have := Nat.mod_le n (2 ^ k); omega) h.val h0 hF⟩
theorem xor8_cast {a b : Nat} (ha : a < 256) (hb : b < 256) : bits .xor .u8 (a : Int) (b : Int) = ((a ^^^ b : Nat) : Int) := u8_xor_nat a b ha hb
set_option maxHeartbeats 1000000 in
theorem turned_go (a0 : ByteArray) (a1 : Int) (m n : Nat) (W : World) (s0 : a0.size ≤ 140737488351232) (hm : m ≤ 9223372036854775807) (ha : a1 = m ∨ a1 = -(m : Int) - 1) (hn : n < 4294967296) (hz : 0 < a0.size) (hT : Tab W) :
    Calls Tryd.prog 5 #[.string a0, .int .i64 a1, .int .u32 n] W fun e w' => e = .returned (.bool true) ∧ Below W.heap.size W w' := by
  obtain ⟨cap, W1, hrun, hB, hbel, hsz1⟩ := bytes_of (P := Tryd.prog) W 9 28 5 a0 Tryd.underlying9 Tryd.underlying28 Tryd.underlying5
  have hpos := hT.pos
  have hlen : a0.data.toList.length = a0.size := rfl
  have hlen := Lib.hid hlen
  have hF : (m : Int) % (8 * (a0.size : Int)) = ((m % (8 * a0.size) : Nat) : Int) := by simp
  have hFt : (m : Int).tmod (8 * (a0.size : Int)) = ((m % (8 * a0.size) : Nat) : Int) := by rw [Int.tmod_eq_emod_of_nonneg (Int.natCast_nonneg m)]; exact hF
  have hn1 : -(m : Int) - 1 + 1 = -(m : Int) := by omega
  have hn2 : decide (-(m : Int) - 1 < 0) = true := decide_eq_true (by omega)
  have hn3 : decide ((m : Int) < 0) = false := decide_eq_false (by omega)
  have hz0 : ((a0.size : Int) == 0) = false := by rw [beq_eq_false_iff_ne]; omega
  have hF' : m % (8 * a0.size) < 8 * a0.size := Nat.mod_lt _ (by omega)
  have hT0 : Turn W a0.data.toList cap (m % (8 * a0.size)) n 0 a0.data.toList W1 := ⟨rfl, by simp [Nat.mod_one], hB, hbel⟩
  have ht0 := Lib.hid (tb_zero n)
  generalize m % (8 * a0.size) = F at hF hFt hF' hT0
  rcases ha with rfl | rfl
  all_goals
    go_enter Tryd.func5, Tryd.ntmps5
    go_wp2
    go_loopw [9, 10] (fun t i wr => ∃ (k : Nat) (l : List UInt8), k ≤ 32 ∧ i = .int .i64 k ∧ t = .bool (tb n k) ∧ Turn W a0.data.toList cap F n k l wr) (fun _ i _ => 32 - (intOf i).toNat)
    case atStart => exact ⟨0, _, by omega, rfl, by rw [ht0.out], hT0⟩
    case round =>
      obtain ⟨k, l, hk, rfl, rfl, hR⟩ := hrel
      by_cases hgo : k < 32 ∧ F + k < 8 * a0.size
      · obtain ⟨hk32, hFk⟩ := hgo
        have hq : (n : Int) / 2 ^ k = ((n / 2 ^ k : Nat) : Int) := by simp
        by_cases hbit : n / 2 ^ k % 2 = 1
        · have hY := fun c hc => hR.yes hbit (c := c) hc
          have hty := Lib.hid (tb_yes hbit)
          have hb1 : (((n / 2 ^ k : Nat) : Int) % 2 == 1) = true := by simp; omega
          obtain ⟨c, hc⟩ : ∃ c, l[(F + k) / 8]? = some c := ⟨_, List.getElem?_eq_getElem (by rw [hR.len, hlen.out]; omega)⟩
          have HY := Lib.hid (hY c hc)
          clear hY
          have hj : ((F : Int) + (k : Int)) / 8 = (((F + k) / 8 : Nat) : Int) := by omega
          have hs : ((F : Int) + (k : Int)) % 8 = (((F + k) % 8 : Nat) : Int) := by omega
          have hjl : (F + k) / 8 < a0.size := by omega
          have hcell := hR.row.cell hc
          have hfr := hR.row.frozen (j := (F + k) / 8) (by have := hR.row.len; rw [hR.len, hlen.out] at this; omega)
          have hc8 := byte_lt c
          have hx8 : 2 ^ ((F + k) % 8) < 256 := Nat.pow_lt_pow_right (by decide) (show (F + k) % 8 < 8 by omega)
          have hxor : bits .xor .u8 (c.toNat : Int) (2 ^ ((F + k) % 8) % 256) = ((c.toNat ^^^ 2 ^ ((F + k) % 8) : Nat) : Int) := by
            rw [show ((2 : Int) ^ ((F + k) % 8) % 256) = ((2 ^ ((F + k) % 8) % 256 : Nat) : Int) by simp, Nat.mod_eq_of_lt hx8]
            exact xor8_cast hc8 hx8
          clear hbit hc
          generalize n / 2 ^ k = q at hq hb1
          generalize (F + k) / 8 = j at *
          generalize (F + k) % 8 = sh at *
          go_wp2
          go_roundw
          case rel => exact ⟨k + 1, _, by omega, by go_num, by rw [hty.out], HY.out⟩
          case measure => simp [intOf]; omega
        · have hty := Lib.hid (tb_no hbit)
          have HY := Lib.hid (hR.no hbit)
          have hb1 : (((n / 2 ^ k : Nat) : Int) % 2 == 1) = false := by simp; omega
          clear hbit
          generalize n / 2 ^ k = q at hq hb1
          go_wp2
          go_roundw
          case rel => exact ⟨k + 1, _, by omega, by go_num, by rw [hty.out], HY.out⟩
          case measure => simp [intOf]; omega
      · have hbW := hR.bel
        have htext := hR.row.text (P := Tryd.prog) 28 9 cap a0.size Tryd.underlying28 Tryd.underlying5 Tryd.underlying9 (by rw [hR.len, hlen.out])
        have hTr : Tab wr := hT.later hR.bel hpos
        have hsl : (⟨l.toArray⟩ : ByteArray).size ≤ maxLen := by
          have h1 : (⟨l.toArray⟩ : ByteArray).size = l.length := rfl
          rw [h1, hR.len, hlen.out]; unfold maxLen; omega
        have c1 : Calls Tryd.prog 9 #[.string ⟨l.toArray⟩] wr _ := sum_c _ wr hsl hTr
        have c2 : Calls Tryd.prog 9 #[.string a0] wr _ := sum_c _ wr (by unfold maxLen; omega) hTr
        have hend := turn_end hR hn (by rw [hlen.out]; omega)
        have hel : (⟨l.toArray⟩ : ByteArray).data.toList = l := by simp
        rw [hel] at c1
        have hexit : (k < 32 ∧ ¬ F + k < 8 * a0.size) ∨ ¬ k < 32 := by omega
        clear hgo hR hel hsl
        rcases hend with ⟨ht, hne⟩ | ⟨ht, he⟩
        · have hne' : ((ext 0 l : Nat) : Int) ≠ ((ext 0 a0.data.toList : Nat) : Int) := by omega
          generalize ext 0 l = x1 at *
          generalize ext 0 a0.data.toList = x2 at *
          have hb0 : ((x1 : Int) == (x2 : Int)) = false := by simp; omega
          have hb1 : ((x1 : Int) != (x2 : Int)) = true := by simp; omega
          clear hne hne'
          rcases hexit with ⟨h1, h2⟩ | h1
          all_goals
            go_wp2_with (first
              | ((with_reducible refine c1.mono ?_); rintro e w' ⟨rfl, rfl⟩)
              | ((with_reducible refine c2.mono ?_); rintro e w' ⟨rfl, rfl⟩)
              | ((with_reducible refine (live_c wr hTr).mono ?_); rintro e w' ⟨rfl, rfl⟩))
            go_ret
            exact ⟨rfl, hbW⟩
        · rw [he] at c1
          generalize ext 0 a0.data.toList = x2 at *
          clear he
          rcases hexit with ⟨h1, h2⟩ | h1
          all_goals
            go_wp2_with (first
              | ((with_reducible refine c1.mono ?_); rintro e w' ⟨rfl, rfl⟩)
              | ((with_reducible refine c2.mono ?_); rintro e w' ⟨rfl, rfl⟩)
              | ((with_reducible refine (live_c wr hTr).mono ?_); rintro e w' ⟨rfl, rfl⟩))
            go_ret
            exact ⟨rfl, hbW⟩
theorem crccTurned_walk (a0 : ByteArray) (a1 a2 : Int) (W : World) (s0 : a0.size ≤ 140737488351232) (w1 : (Lit.int .i64 a1).wf = true) (w2 : (Lit.int .u32 a2).wf = true) (hT : Tab W) :
    Calls Tryd.prog 5 #[.string a0, .int .i64 a1, .int .u32 a2] W fun e w' => e = .returned (.bool true) ∧ Below W.heap.size W w' := by
  obtain ⟨n, rfl, hn⟩ := nat_u32 w2
  have hb1 : -9223372036854775808 ≤ a1 ∧ a1 ≤ 9223372036854775807 := by simpa [Lit.wf, IntKind.min, IntKind.max, IntKind.signed, IntKind.bits] using w1
  clear w1 w2
  obtain ⟨hlo, hhi⟩ := hb1
  by_cases hz : a0.size = 0
  · go_enter Tryd.func5, Tryd.ntmps5
    go_wp2_with ((with_reducible refine (live_c W hT).mono ?_); rintro e w' ⟨rfl, rfl⟩)
    go_ret
    exact ⟨rfl, Below.refl _ _⟩
  · by_cases hneg : a1 < 0
    · exact turned_go a0 a1 (-(a1 + 1)).toNat n W s0 (by omega) (.inr (by omega)) hn (by omega) hT
    · exact turned_go a0 a1 a1.toNat n W s0 (by omega) (.inl (by omega)) hn (by omega) hT
end Go.Proofs.YtcepdppnhhidoaaDoor
