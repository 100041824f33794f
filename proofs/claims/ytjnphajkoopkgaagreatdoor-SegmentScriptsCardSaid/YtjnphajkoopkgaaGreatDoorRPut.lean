/- The document's Put by one contract, for every number. No condition. -/
import Derived.Test.YtjnphajkoopkgaaGreatDoorNum
import Derived.WalkKit
import Derived.ProofKit
import Derived.LoopTactic
import Derived.Lib.Hide
import Derived.ScopeJumps
import Derived.WalkMore
import Derived.WalkLawsBesides
import Derived.IntWalk
import Derived.Deep.RegionWith
import Derived.Laws.Concat
import Derived.Laws.DeepStrings4
namespace Go.Proofs.YtjnphajkoopkgaaGreatDoor
open Go.RowKit
set_option linter.unusedVariables false
set_option maxHeartbeats 1000000 in
set_option maxRecDepth 100000 in
theorem rput_go (n : Int) (W : World) (h0 : -9223372036854775808 ≤ n) (h1 : n ≤ 9223372036854775807) (u : Nat) (hcl : u < 18446744073709551616) (hu : (n < 0 ∧ -(n + 1) * 2 + 1 = u) ∨ (0 ≤ n ∧ n * 2 = u)) :
    Calls Tryz.prog 128 #[.int .i64 n] W (Good W (.string ⟨(enc u).toArray⟩)) := by
  obtain ⟨i0, hi, hz0, hz1, hz2⟩ := info_parts info5
  have hst := Lib.hid (RPutAt.start W hcl)
  rcases hu with ⟨hn, hu⟩ | ⟨hn, hu⟩
  all_goals
    first
    | (have hd : decide (n < 0) = true := decide_eq_true hn)
    | (have hd : decide (n < 0) = false := decide_eq_false (by omega))
    go_enter Tryz.func128, Tryz.ntmps128
    go_wp2
    go_loopw [4, 5] (fun x v wr => ∃ (c : Nat) (pre : List UInt8), x = .int .u64 c ∧ RPutAt W u c pre v wr) (fun x _ _ => (intOf x).toNat)
    case atStart => exact ⟨u, [], rfl, hst.out⟩
    case round =>
      obtain ⟨c, pre, rfl, hR⟩ := hrel
      have hlen := hR.len
      have hbs := hR.bel.size
      have hbel := hR.bel
      have hrow := hR.row
      clear hu hcl hst h0 h1
      by_cases hc : c < 128
      · have hfin : Hid (enc u = pre ++ [UInt8.ofNat c]) := Lib.hid (by
          rw [← hR.all]
          obtain ⟨f, hf⟩ : ∃ f, 10 - pre.length = f + 1 := ⟨9 - pre.length, by omega⟩
          rw [hf, encF, if_pos hc])
        clear hR
        go_wp2_with (at_builtin; refine wpList_append_bytes _ rfl (.tmp 27) (.tmp 30) _ rfl W.heap.size 5 i0 Tryz.underlying106 hi hz0 hz1 hz2 _ pre rfl (hrow.alloc _) ⟨wr.heap.size, 0, none⟩ 1 1 [UInt8.ofNat c] rfl rfl ?c1 ?c2 ?c3 ?_)
        case c1 => exact fun j y hy => append_one wr 5 c j y hy (by omega)
        case c2 => omega
        case c3 => simp; omega
        intro v1 w1 hv1 hg1 ho1
        have hbw1 : Below W.heap.size W w1 := (hbel.alloc hbs _).grown hg1 (by simp; omega) (fun k hk => (hrow.lt k hk).1)
        have htext := hv1.text (P := Tryz.prog) 106 9 Tryz.underlying106 Tryz.underlying5 Tryz.underlying9
        clear ho1 hg1 hv1
        go_wp2
        go_ret
        exact ⟨by rw [hfin.out]; rfl, hbw1⟩
      · have hS := fun v1 w1 hv hb => hR.step (v1 := v1) (w1 := w1) hc hv hb
        have HS := Lib.hid hS
        have hct : (c : Int) % 128 = ((c % 128 : Nat) : Int) := by omega
        have hdv : (c : Int) / 128 = ((c / 128 : Nat) : Int) := by omega
        have hlt : c / 128 < c := by omega
        have hdb : c / 128 ≤ 18446744073709551615 := by have := hR.small; omega
        have hy : c % 128 < 128 := Nat.mod_lt _ (by decide)
        have hz : ((c % 128 : Nat) : Int) + 128 = ((c % 128 + 128 : Nat) : Int) := by omega
        have hzl : c % 128 + 128 < 256 := by omega
        clear hS hR
        generalize c % 128 + 128 = z at HS hz hzl
        generalize c % 128 = y at hz hct hy
        generalize c / 128 = d at HS hdv hlt hdb
        go_wp2_with (at_builtin; refine wpList_append_bytes _ rfl (.tmp 18) (.tmp 23) _ rfl W.heap.size 5 i0 Tryz.underlying106 hi hz0 hz1 hz2 _ pre rfl (hrow.alloc _) ⟨wr.heap.size, 0, none⟩ 1 1 [UInt8.ofNat z] rfl rfl ?c1 ?c2 ?c3 ?_)
        case c1 => exact fun j y hy => append_one wr 5 z j y hy hzl
        case c2 => omega
        case c3 => simp; omega
        intro v1 w1 hv1 hg1 ho1
        have hbw1 : Below W.heap.size W w1 := (hbel.alloc hbs _).grown hg1 (by simp; omega) (fun k hk => (hrow.lt k hk).1)
        have HR := Lib.hid (HS.out v1 w1 hv1 hbw1)
        clear ho1 hg1 hv1
        go_wp2
        go_roundw
        case rel => exact ⟨d, _, rfl, HR.out⟩
        case measure => simp [intOf]; omega
theorem rput_c (n : Int) (W : World) (h0 : -9223372036854775808 ≤ n) (h1 : n ≤ 9223372036854775807) :
    Calls Tryz.prog 128 #[.int .i64 n] W (Good W (.string ⟨(putL n).toArray⟩)) := by
  have hc := code_lt h0 h1
  have h := rput_go n W h0 h1 (code n) hc (by
    unfold code
    by_cases hn : n < 0
    · rw [if_pos hn]; left; exact ⟨hn, by omega⟩
    · rw [if_neg hn]; right; exact ⟨by omega, by omega⟩)
  exact h
end Go.Proofs.YtjnphajkoopkgaaGreatDoor
