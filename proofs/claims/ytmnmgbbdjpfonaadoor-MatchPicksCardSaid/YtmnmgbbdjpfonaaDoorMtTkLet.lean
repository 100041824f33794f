/- Whether a character is a letter: token's and the document's. Condition: the two tables of utf8 as they are laid. -/
import Derived.Test.YtmnmgbbdjpfonaaDoorMtTkBase
import Derived.Test.YtmnmgbbdjpfonaaDoorDec
import Derived.Test.YtmnmgbbdjpfonaaDoorKit
import Derived.Lib.RuneCountTail
namespace Go.Proofs.YtmnmgbbdjpfonaaDoor
open Go.RowKit
set_option linter.unusedVariables false
def Tabs (w : World) : Prop := Lib.Utf8Tabs 0 1 w
theorem tab_lt {w : World} {a : Addr} {v : Value} (h : w.cell? a = some v) : a.block < w.heap.size := by
  rcases Nat.lt_or_ge a.block w.heap.size with hlt | hge
  · exact hlt
  · simp [World.cell?, Array.getElem?_eq_none hge] at h
theorem Tabs.below {w w' : World} (h : Tabs w) (hb : Below w.heap.size w w') : Tabs w' := by
  refine ⟨fun c hc => ?_, fun i hi => ⟨?_, ?_⟩⟩
  · have := h.1 c hc
    exact (hb.cell (p := ⟨0, c, none⟩) (tab_lt this)).trans this
  · have := (h.2 i hi).1
    exact (hb.cell (p := ⟨1, 2 * i, none⟩) (tab_lt this)).trans this
  · have := (h.2 i hi).2
    exact (hb.cell (p := ⟨1, 2 * i + 1, none⟩) (tab_lt this)).trans this
theorem dec_eq (s : ByteArray) (i : Nat) : Utf8.decode s i = TK.dec s.data.toList i := by
  rw [Lib.decode_at, ← Lib.getD_get!', ← Lib.getD_get!', ← Lib.getD_get!', ← Lib.getD_get!', ← size_list]
  rfl
/-- What Go's decoder says of a text from a place on. -/
theorem decodeGo_at (l : List UInt8) (i : Nat) (h : i < l.length) : Lib.decodeGo ((bs l).extract i (bs l).size) = TK.dec l i := by
  unfold Lib.decodeGo
  rw [if_neg (by rw [Lib.tail_size, bs_size]; omega), Lib.tail_decode, dec_eq, bs_list, Nat.add_zero]
theorem dec_rune (l : List UInt8) (i : Nat) : (1 < TK.wd l i → 128 ≤ (TK.dec l i).1) ∧ (TK.wd l i = 1 → (TK.bt l i < 128 ∧ (TK.dec l i).1 = TK.bt l i) ∨ (128 ≤ TK.bt l i ∧ (TK.dec l i).1 = 65533)) := by
  have h := TK.decN_width (l.length - i) (TK.bt l i) (TK.bt l (i + 1)) (TK.bt l (i + 2)) (TK.bt l (i + 3))
  exact ⟨fun hw => (h.2.2.1 hw).2.2, fun hw => h.2.2.2 hw⟩
theorem dec_rune_le (l : List UInt8) (i : Nat) : (TK.dec l i).1 ≤ 2147483647 := by
  have := decode_le (bs l) i
  rw [dec_eq, bs_list] at this
  exact this
theorem asc_high {c : Nat} (h : 128 ≤ c) : TK.asc c = false := by
  cases h2 : TK.asc c with
  | false => rfl
  | true => have := TK.asc_lt h2; omega
/-- What token.letter answers, told by the rune and the width. -/
def letB (c w : Nat) : Bool := if c = 65533 then decide (1 < w) else decide (128 ≤ c) || TK.asc c
theorem letB_eq (l : List UInt8) (i : Nat) : letB (TK.dec l i).1 (TK.wd l i) = TK.isL l i := by
  have h1 := TK.wd_pos l i
  have h2 := dec_rune l i
  unfold letB TK.isL
  by_cases hw : 1 < TK.wd l i
  · have := h2.1 hw
    simp [hw, this]
  · have hw1 : TK.wd l i = 1 := by omega
    rcases h2.2 hw1 with ⟨a, b⟩ | ⟨a, b⟩
    · rw [if_neg (by omega), b, hw1]
      simp
      omega
    · rw [if_pos b, asc_high a, Bool.or_false]
theorem asc_int (c : Nat) : TK.asc c = (((decide (97 ≤ (c : Int)) && decide ((c : Int) ≤ 122)) || (decide (65 ≤ (c : Int)) && decide ((c : Int) ≤ 90))) || (decide (48 ≤ (c : Int)) && decide ((c : Int) ≤ 57)) || decide (c = 95)) := by
  rw [Bool.eq_iff_iff]
  unfold TK.asc
  simp only [Bool.or_eq_true, Bool.and_eq_true, decide_eq_true_eq]
  omega
set_option maxHeartbeats 4000000 in
set_option maxRecDepth 100000 in
theorem letter_c (l : List UInt8) (i : Nat) (W : World) (hi : i < l.length) (hT : Tabs W) :
    Calls Tryd.prog 53 #[.string ((bs l).extract i (bs l).size), .int .i32 ((TK.dec l i).1 : Nat)] W (Good W (.bool (TK.isL l i))) := by
  have hc := Tryd.utf8_DecodeRuneInString ((bs l).extract i (bs l).size) W hT
  rw [decodeGo_at l i hi] at hc
  have hle := dec_rune_le l i
  rw [← letB_eq]
  unfold TK.wd
  generalize (bs l).extract i (bs l).size = s at *
  generalize (TK.dec l i).1 = c at *
  generalize (TK.dec l i).2 = w at *
  unfold letB
  by_cases h : c = 65533
  · subst h
    rw [if_pos rfl]
    obtain ⟨b, hb⟩ : ∃ b, decide (1 < w) = b := ⟨_, rfl⟩
    have hbI : decide ((1 : Int) < (w : Int)) = b := by rw [← hb, Bool.eq_iff_iff, decide_eq_true_eq, decide_eq_true_eq]; omega
    rw [hb]
    go_enter Tryd.func53, Tryd.ntmps53
    go_wp2_with ((with_reducible refine hc.mono ?_); rintro e w1 ⟨rfl, hb1⟩)
    go_ret
    exact ⟨rfl, by assumption⟩
  · rw [if_neg h]
    have hz : ((c : Int) == 65533) = false := by rw [beq_eq_false_iff_ne]; omega
    obtain ⟨b, hb⟩ : ∃ b, (decide (128 ≤ c) || TK.asc c) = b := ⟨_, rfl⟩
    have HB := Lib.hid hb
    rw [hb]
    clear hb hc
    by_cases h1 : 128 ≤ c
    · have h1' : decide (128 ≤ (c : Int)) = true := decide_eq_true (by omega)
      go_enter Tryd.func53, Tryd.ntmps53
      go_wp2
      go_ret
      refine ⟨?_, Below.refl _ _⟩
      rw [← HB.out]
      simp [h1]
    · have h1' : decide (128 ≤ (c : Int)) = false := decide_eq_false (by omega)
      go_enter Tryd.func53, Tryd.ntmps53
      go_wp2
      all_goals
        go_ret
        refine ⟨?_, Below.refl _ _⟩
        rw [← HB.out]
        refine congrArg (fun b => Ending.returned (.bool b)) ?_
        rw [Bool.eq_iff_iff]
        unfold TK.asc
        simp only [Bool.or_eq_true, Bool.and_eq_true, decide_eq_true_eq, beq_iff_eq, true_iff]
        omega
end Go.Proofs.YtmnmgbbdjpfonaaDoor
