/- The body that stands at a place: the program's bodyAt. Condition: the table of sums. -/
import Derived.Test.YtmhamfhhojmeoaaDoorBatEnc
import Derived.Test.YtmhamfhhojmeoaaDoorPRead
import Derived.Test.YtmhamfhhojmeoaaDoorRRead
namespace Go.Proofs.YtmhamfhhojmeoaaDoor
open Go.RowKit
set_option linter.unusedVariables false
def rd4 (s : ByteArray) (a : Nat) : Nat := bv ((s.data.toList.drop a).take 4)
theorem rd4_lt (s : ByteArray) (a : Nat) : rd4 s a < 4294967296 := by
  have h := bv_lt ((s.data.toList.drop a).take 4)
  have hl : ((s.data.toList.drop a).take 4).length ≤ 4 := by rw [List.length_take]; omega
  have h2 : 256 ^ ((s.data.toList.drop a).take 4).length ≤ 256 ^ 4 := Nat.pow_le_pow_right (by decide) hl
  unfold rd4
  have h3 : (256 : Nat) ^ 4 = 4294967296 := by decide
  omega
theorem readG_out {s : ByteArray} {p : Int} (h : p < 0 ∨ (s.size : Int) < p) : readG s p 4 = (0, 0, 1) := by
  unfold readG
  rw [if_pos (by rcases h with h | h <;> simp [h])]
theorem readG_few {s : ByteArray} {a : Nat} (h : a ≤ s.size) (h4 : s.size < a + 4) : readG s (a : Int) 4 = (0, 0, 2) := by
  unfold readG
  rw [if_neg (by omega), if_pos (by omega)]
theorem readG_in {s : ByteArray} {a : Nat} (h4 : a + 4 ≤ s.size) : readG s (a : Int) 4 = (((rd4 s a : Nat) : Int), ((a + 4 : Nat) : Int), 0) := by
  have h := rd4_lt s a
  unfold rd4 at h
  unfold readG rd4
  rw [if_neg (by omega), if_neg (by omega)]
  simp only [Int.toNat_natCast, show (4 : Int).toNat = 4 from rfl]
  rw [if_neg (by omega)]
  simp
/-- The body that stands at a place. -/
def bodyG (s : ByteArray) (p : Int) : ByteArray × Int × Int :=
  if p < 0 ∨ (s.size : Int) < p then (⟨#[]⟩, 0, 1) else
  if s.size < p.toNat + 8 then (⟨#[]⟩, 0, 2) else
  if 60000 < rd4 s p.toNat then (⟨#[]⟩, 0, 3) else
  if s.size < p.toNat + 8 + rd4 s p.toNat then (⟨#[]⟩, 0, 2) else
  if sumN (s.extract (p.toNat + 8) (p.toNat + 8 + rd4 s p.toNat)) ≠ rd4 s (p.toNat + 4) then (⟨#[]⟩, 0, 4) else
  (s.extract (p.toNat + 8) (p.toNat + 8 + rd4 s p.toNat), ((p.toNat + 8 + rd4 s p.toNat : Nat) : Int), 0)
def bodyV (t : ByteArray × Int × Int) : Value := .tuple #[.string t.1, .int .i64 t.2.1, .int .i64 t.2.2]
set_option maxHeartbeats 8000000 in
set_option maxRecDepth 100000 in
theorem pbodyAt_c (s : ByteArray) (p : Int) (W : World) (hs : s.size ≤ 140737488351232) (hT : Tab W) :
    Calls Tryd.prog 32 #[.string s, .int .i64 p] W (Good W (bodyV (bodyG s p))) := by
  have c1 := fun w => read_c s p 4 w (by omega)
  unfold bodyG bodyV
  by_cases h1 : p < 0 ∨ (s.size : Int) < p
  · rw [if_pos h1]
    rw [readG_out h1] at c1
    unfold Tri at c1
    clear h1
    go_enter Tryd.func32, Tryd.ntmps32
    go_wp2_with ((with_reducible refine (c1 _).mono ?_); rintro e w1 ⟨rfl, rfl⟩)
    go_ret3
    exact ⟨rfl, Below.refl _ _⟩
  · rw [if_neg h1]
    obtain ⟨a, rfl⟩ : ∃ a : Nat, p = a := ⟨p.toNat, by omega⟩
    rw [Int.toNat_natCast]
    have ha : a ≤ s.size := by omega
    clear h1
    by_cases h2 : s.size < a + 8
    · rw [if_pos h2]
      by_cases h3 : s.size < a + 4
      · rw [readG_few ha h3] at c1
        unfold Tri at c1
        clear h2 h3
        go_enter Tryd.func32, Tryd.ntmps32
        go_wp2_with ((with_reducible refine (c1 _).mono ?_); rintro e w1 ⟨rfl, rfl⟩)
        go_ret3
        exact ⟨rfl, Below.refl _ _⟩
      · rw [readG_in (by omega)] at c1
        have c2 := fun w => read_c s ((a + 4 : Nat) : Int) 4 w (by omega)
        rw [readG_few (by omega) (by omega)] at c2
        unfold Tri at c1 c2
        generalize rd4 s a = n at *
        generalize (((a + 4 : Nat) : Int)) = q at *
        clear h2 h3
        go_enter Tryd.func32, Tryd.ntmps32
        go_wp2_with fail
        (with_reducible refine (c1 _).mono ?_)
        rintro e w1 ⟨rfl, rfl⟩
        go_wp2_with fail
        (with_reducible refine (c2 _).mono ?_)
        rintro e w2 ⟨rfl, rfl⟩
        go_wp2
        go_ret3
        exact ⟨rfl, Below.refl _ _⟩
    · rw [if_neg h2]
      rw [readG_in (by omega)] at c1
      have c2 := fun w => read_c s ((a + 4 : Nat) : Int) 4 w (by omega)
      rw [readG_in (by omega)] at c2
      have hn := rd4_lt s a
      have hm := rd4_lt s (a + 4)
      unfold Tri at c1 c2
      have hq : ((a + 4 + 4 : Nat) : Int) = (a : Int) + 8 := by omega
      rw [hq] at c2
      clear hq
      by_cases h3 : 60000 < rd4 s a
      · rw [if_pos h3]
        generalize rd4 s (a + 4) = m at *
        generalize rd4 s a = n at *
        generalize (((a + 4 : Nat) : Int)) = q at *
        have h3' : (60000 : Int) < (n : Int) := by omega
        clear h2 h3
        go_enter Tryd.func32, Tryd.ntmps32
        go_wp2_with fail
        (with_reducible refine (c1 _).mono ?_)
        rintro e w1 ⟨rfl, rfl⟩
        go_wp2_with fail
        (with_reducible refine (c2 _).mono ?_)
        rintro e w2 ⟨rfl, rfl⟩
        go_wp2
        go_ret3
        exact ⟨rfl, Below.refl _ _⟩
      · rw [if_neg h3]
        have h3' : (rd4 s a : Int) ≤ 60000 := by omega
        by_cases h4 : s.size < a + 8 + rd4 s a
        · rw [if_pos h4]
          generalize rd4 s (a + 4) = m at *
          generalize rd4 s a = n at *
          generalize (((a + 4 : Nat) : Int)) = q at *
          have h4' : (s.size : Int) - ((a : Int) + 8) < (n : Int) := by omega
          clear h2 h3 h4
          go_enter Tryd.func32, Tryd.ntmps32
          go_wp2_with fail
          (with_reducible refine (c1 _).mono ?_)
          rintro e w1 ⟨rfl, rfl⟩
          go_wp2_with fail
          (with_reducible refine (c2 _).mono ?_)
          rintro e w2 ⟨rfl, rfl⟩
          go_wp2
          go_ret3
          exact ⟨rfl, Below.refl _ _⟩
        · rw [if_neg h4]
          have hsl := fun w => slice_str (P := Tryd.prog) w 9 s (a + 8) (a + 8 + rd4 s a) Tryd.underlying9 (by omega) (by omega)
          have cs := fun w hw => CR.sum_c (s.extract (a + 8) (a + 8 + rd4 s a)) w (by unfold maxLen; rw [ByteArray.size_extract]; omega) hw
          change ∀ w, Tab w → Calls _ _ _ _ (fun e w' => e = .returned (.int .u32 (sumN (s.extract (a + 8) (a + 8 + rd4 s a)) : Nat)) ∧ w = w') at cs
          have hsm := sumN_lt (s.extract (a + 8) (a + 8 + rd4 s a))
          have hq8 : ((a + 8 : Nat) : Int) = (a : Int) + 8 := by omega
          have hqn : ((a + 8 + rd4 s a : Nat) : Int) = (a : Int) + 8 + (rd4 s a : Int) := by omega
          rw [hq8, hqn] at hsl
          rw [hqn]
          clear hq8 hqn
          generalize s.extract (a + 8) (a + 8 + rd4 s a) = t at *
          generalize sumN t = sm at *
          generalize rd4 s (a + 4) = m at *
          generalize rd4 s a = n at *
          generalize (((a + 4 : Nat) : Int)) = q at *
          have h4' : ¬ (s.size : Int) - ((a : Int) + 8) < (n : Int) := by omega
          clear h2 h3 h4
          by_cases h5 : sm = m
          · rw [if_neg (by omega)]
            subst h5
            go_enter Tryd.func32, Tryd.ntmps32
            go_wp2_with fail
            (with_reducible refine (c1 _).mono ?_)
            rintro e w1 ⟨rfl, rfl⟩
            go_wp2_with fail
            (with_reducible refine (c2 _).mono ?_)
            rintro e w2 ⟨rfl, rfl⟩
            go_wp2_with fail
            (with_reducible refine (cs _ hT).mono ?_)
            rintro e w3 ⟨rfl, rfl⟩
            go_wp2
            go_ret3
            exact ⟨rfl, Below.refl _ _⟩
          · rw [if_pos h5]
            have h5' : ((sm : Int) == (m : Int)) = false := by rw [beq_eq_false_iff_ne]; omega
            go_enter Tryd.func32, Tryd.ntmps32
            go_wp2_with fail
            (with_reducible refine (c1 _).mono ?_)
            rintro e w1 ⟨rfl, rfl⟩
            go_wp2_with fail
            (with_reducible refine (c2 _).mono ?_)
            rintro e w2 ⟨rfl, rfl⟩
            go_wp2_with fail
            (with_reducible refine (cs _ hT).mono ?_)
            rintro e w3 ⟨rfl, rfl⟩
            go_wp2
            go_ret3
            exact ⟨rfl, Below.refl _ _⟩
end Go.Proofs.YtmhamfhhojmeoaaDoor
