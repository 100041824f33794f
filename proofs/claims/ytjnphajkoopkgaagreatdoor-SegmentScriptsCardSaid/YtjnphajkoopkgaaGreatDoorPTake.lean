/- varint.Take and Text by contracts, for every text of at most 2 to the 48 bytes. -/
import Derived.Test.YtjnphajkoopkgaaGreatDoorPGet
import Derived.Test.YtjnphajkoopkgaaGreatDoorPPut
import Derived.Test.YtjnphajkoopkgaaGreatDoorClone
import Derived.WalkKit
import Derived.ProofKit
import Derived.LoopTactic
import Derived.Lib.Hide
import Derived.ScopeJumps
import Derived.WalkMore
import Derived.WalkLawsBesides
import Derived.IntWalk
import Derived.Deep.RegionWith
import Derived.Laws.Concat
import Derived.Laws.DeepStrings4
namespace Go.Proofs.YtjnphajkoopkgaaGreatDoor
open Go.RowKit
set_option linter.unusedVariables false
theorem clone_c (s : ByteArray) (W : World) (hs : s.size ≤ 281474976710656) : Calls Tryz.prog 29 #[.string s] W (Good W (.string s)) := by
  go_enter Tryz.func29, Tryz.ntmps29
  go_wp2_with (go_at_call 57; refine (Tryz.stringslite_Clone s _ hs).mono ?_; rintro e w1 ⟨rfl, hb⟩)
  go_ret
  exact ⟨rfl, hb⟩
set_option maxHeartbeats 1000000 in
set_option maxRecDepth 100000 in
theorem take_c (s : ByteArray) (p most : Int) (W : World) (hs : s.size ≤ 1152921504606846976) (hm : most ≤ 281474976710656) :
    Calls Tryz.prog 170 #[.string s, .int .i64 p, .int .i64 most] W (Good W (Sri (takeG s p most).1 (takeG s p most).2.1 (takeG s p most).2.2)) := by
  have hg := get_c s p W hs
  have hok := getG_ok (s := s) (p := p)
  have hT : Hid (takeG s p most = if (getG s p).2.2 ≠ 0 then (⟨#[]⟩, 0, (getG s p).2.2) else if (getG s p).1 < 0 ∨ most < (getG s p).1 then (⟨#[]⟩, 0, 3) else if (s.size : Int) - (getG s p).2.1 < (getG s p).1 then (⟨#[]⟩, 0, 2) else (s.extract (getG s p).2.1.toNat ((getG s p).2.1 + (getG s p).1).toNat, (getG s p).2.1 + (getG s p).1, 0)) := Lib.hid rfl
  generalize (getG s p).1 = n at *
  generalize (getG s p).2.1 = q at *
  generalize (getG s p).2.2 = er at *
  unfold Tri at hg
  by_cases he : er = 0
  · obtain ⟨k, hk, _, hks, hn0, hn1⟩ := hok he
    have hT1 := hT.out
    rw [if_neg (by simpa using he)] at hT1
    subst hk
    subst he
    by_cases h1 : n < 0
    · rw [if_pos (.inl h1)] at hT1
      have H1 := Lib.hid hT1
      clear hT1 hT hok
      go_enter Tryz.func170, Tryz.ntmps170
      go_wp2_with ((with_reducible refine hg.mono ?_); rintro e w' ⟨rfl, rfl⟩)
      go_ret3
      exact ⟨by rw [H1.out]; rfl, Below.refl _ _⟩
    · obtain ⟨m, rfl⟩ : ∃ m : Nat, n = m := ⟨n.toNat, by omega⟩
      have d1 : decide ((m : Int) < 0) = false := decide_eq_false (by omega)
      by_cases h2 : most < (m : Int)
      · rw [if_pos (.inr h2)] at hT1
        have H1 := Lib.hid hT1
        clear hT1 hT hok
        go_enter Tryz.func170, Tryz.ntmps170
        go_wp2_with ((with_reducible refine hg.mono ?_); rintro e w' ⟨rfl, rfl⟩)
        go_ret3
        exact ⟨by rw [H1.out]; rfl, Below.refl _ _⟩
      · rw [if_neg (by omega)] at hT1
        have d2 : decide (most < (m : Int)) = false := decide_eq_false h2
        by_cases h3 : (s.size : Int) - (k : Int) < (m : Int)
        · rw [if_pos h3] at hT1
          have H1 := Lib.hid hT1
          clear hT1 hT hok
          go_enter Tryz.func170, Tryz.ntmps170
          go_wp2_with ((with_reducible refine hg.mono ?_); rintro e w' ⟨rfl, rfl⟩)
          go_ret3
          exact ⟨by rw [H1.out]; rfl, Below.refl _ _⟩
        · rw [if_neg h3] at hT1
          have H1 : Hid (takeG s p most = (s.extract k (k + m), ((k + m : Nat) : Int), 0)) := Lib.hid (by rw [hT1]; rfl)
          have g1 : k + m ≤ s.size := by omega
          have g2 : (k : Int) + (m : Int) ≤ (s.size : Int) := by omega
          have hsl : ∀ w, (Instr.slice 9 (.string s) (some (.int .i64 (k : Int))) (some (.int .i64 ((k : Int) + (m : Int)))) none).run Tryz.prog w = .ok (.string (s.extract k (k + m))) w := fun w => by
            rw [show (k : Int) + (m : Int) = ((k + m : Nat) : Int) by omega]
            exact slice_str w 9 s k (k + m) Tryz.underlying9 (by omega) g1
          have hcl := clone_c (s.extract k (k + m)) W (by rw [ByteArray.size_extract]; omega)
          clear hT1 hT hok
          go_enter Tryz.func170, Tryz.ntmps170
          go_wp2_with (first
            | ((with_reducible refine hg.mono ?_); rintro e w' ⟨rfl, rfl⟩)
            | ((with_reducible refine hcl.mono ?_); rintro e w' ⟨rfl, hb⟩))
          go_ret3
          exact ⟨by rw [H1.out]; rfl, hb⟩
  · have H1 : Hid (takeG s p most = (⟨#[]⟩, 0, er)) := Lib.hid (by rw [hT.out, if_pos he])
    have e1 : (er == 0) = false := by rw [beq_eq_false_iff_ne]; exact he
    have e2 : (er != 0) = true := by simpa using he
    clear hT hok
    go_enter Tryz.func170, Tryz.ntmps170
    go_wp2_with ((with_reducible refine hg.mono ?_); rintro e w' ⟨rfl, rfl⟩)
    go_ret3
    exact ⟨by rw [H1.out]; rfl, Below.refl _ _⟩
theorem text_c (s : ByteArray) (W : World) (hs : s.size ≤ 281474976710656) : Calls Tryz.prog 138 #[.string s] W (Good W (.string (textG s))) := by
  have hp := put_c s.size W (code_len hs).1 (code_len hs).2
  have hl := put_size s.size
  have hx : Hid (textG s = ⟨(putL s.size).toArray⟩ ++ s) := Lib.hid rfl
  generalize (⟨(putL s.size).toArray⟩ : ByteArray) = r at *
  have hadd : ∀ w, (Op.stringOp .add r s).run Tryz.prog w = .ok (.string (r ++ s)) w := fun w => run_string_add_sum (w := w) r s (by omega)
  go_enter Tryz.func138, Tryz.ntmps138
  go_wp2_with ((with_reducible refine hp.mono ?_); rintro e w' ⟨rfl, hb⟩)
  go_ret
  exact ⟨by rw [hx.out]; rfl, hb⟩
end Go.Proofs.YtjnphajkoopkgaaGreatDoor
