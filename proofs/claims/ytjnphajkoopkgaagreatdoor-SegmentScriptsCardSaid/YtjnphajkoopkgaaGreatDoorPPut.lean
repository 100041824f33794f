/- varint.Put by one contract, for every number. No condition. -/
import Derived.Test.YtjnphajkoopkgaaGreatDoorNum
import Derived.WalkKit
import Derived.ProofKit
import Derived.LoopTactic
import Derived.Lib.Hide
import Derived.ScopeJumps
import Derived.WalkMore
import Derived.WalkLawsBesides
import Derived.IntWalk
import Derived.Deep.RegionWith
import Derived.Laws.Concat
import Derived.Laws.DeepStrings4
namespace Go.Proofs.YtjnphajkoopkgaaGreatDoor
open Go.RowKit
set_option linter.unusedVariables false
theorem codeOf_c (n : Int) (w : World) (h0 : -9223372036854775808 ≤ n) (h1 : n ≤ 9223372036854775807) :
    Calls Tryz.prog 135 #[.int .i64 n] w fun e w' => e = .returned (.int .u64 (code n : Nat)) ∧ w = w' := by
  by_cases h : n < 0
  · have hc := Lib.hid (show (2 * (-(n + 1)) + 1 : Int) = (code n : Nat) by unfold code; rw [if_pos h]; omega)
    go_enter Tryz.func135, Tryz.ntmps135
    go_wp2
    go_ret
    exact ⟨by rw [← hc.out]; rfl, rfl⟩
  · have hc := Lib.hid (show (2 * n : Int) = (code n : Nat) by unfold code; rw [if_neg h]; omega)
    go_enter Tryz.func135, Tryz.ntmps135
    go_wp2
    go_ret
    exact ⟨by rw [← hc.out]; rfl, rfl⟩
structure PutAt (W : World) (u : Nat) (c : Nat) (pre : List UInt8) (wr : World) : Prop where
  row : BRow wr 183 W.heap.size 10 pre
  bel : Below W.heap.size W wr
  lt : c < 128 ^ (10 - pre.length)
  len : pre.length < 10
  all : pre ++ encF (10 - pre.length) c = enc u
theorem PutAt.start (W : World) {u : Nat} (hu : u < 18446744073709551616) : PutAt W u u [] (W.alloc (.cells (Array.replicate 10 (.int .u8 0)) 183)) :=
  ⟨BRow.fresh W 183 10, (Below.refl _ _).alloc (Nat.le_refl _) _, lt10 hu, by decide, rfl⟩
theorem PutAt.step {W wr : World} {u c : Nat} {pre : List UInt8} (h : PutAt W u c pre wr) (hc : ¬ c < 128) :
    PutAt W u (c / 128) (pre ++ [UInt8.ofNat (c % 128 + 128)]) (wr.setCell ⟨W.heap.size, pre.length, none⟩ (.int .u8 ((c % 128 + 128 : Nat) : Int))) := by
  have hl := h.len
  have hlt := h.lt
  have h9 : pre.length + 1 < 10 := by
    rcases Nat.lt_or_ge (pre.length + 1) 10 with h1 | h1
    · exact h1
    · exfalso
      have h2 : pre.length = 9 := by omega
      rw [h2] at hlt
      omega
  have e1 : 10 - pre.length = (10 - (pre.length + 1)) + 1 := by omega
  refine ⟨h.row.grow hl (by omega), h.bel.setCell (Nat.le_refl _) _, ?_, by simpa using h9, ?_⟩
  · rw [e1, Nat.pow_succ] at hlt
    rw [List.length_append]
    show c / 128 < 128 ^ (10 - (pre.length + 1))
    omega
  · rw [← h.all, List.append_assoc, List.length_append]
    show pre ++ ([UInt8.ofNat (c % 128 + 128)] ++ encF (10 - (pre.length + 1)) (c / 128)) = _
    rw [e1, encF, if_neg hc]
    rfl
def PutJ (n : Int) (W : World) (u : Nat) (a' : Act) (w' : World) : Prop := ∃ (c : Nat) (pre : List UInt8) (u6 u7 u8 u9 u10 u11 u12 u13 u14 u15 u16 u17 u18 u19 u20 u21 u22 u23 u24 u25 u26 : Value),
  a' = { tmps := #[.int .i64 n, undef, .string ⟨#[]⟩, .int .u64 c, .pointer (some ⟨W.heap.size, 0, none⟩), .int .i64 pre.length, u6, u7, u8, u9, u10, u11, u12, u13, u14, u15, u16, u17, u18, u19, u20, u21, u22, u23, u24, u25, u26], defers := [] } ∧ PutAt W u c pre w'
set_option maxRecDepth 100000 in
theorem put_c (n : Int) (W : World) (h0 : -9223372036854775808 ≤ n) (h1 : n ≤ 9223372036854775807) :
    Calls Tryz.prog 107 #[.int .i64 n] W (Good W (.string ⟨(putL n).toArray⟩)) := by
  have hcl := code_lt h0 h1
  have hP : Hid (putL n = enc (code n)) := Lib.hid rfl
  have hcode := codeOf_c n W h0 h1
  generalize code n = u at *
  have hst := Lib.hid (PutAt.start W hcl)
  go_enter Tryz.func107, Tryz.ntmps107
  go_wp2
  refine wp_scope_label 0 (PutJ n W u) (fun a' _ => 10 - (intOf (a'.tmps.getD 5 undef)).toNat) rfl ?_ ?_
  · rintro a' w' ⟨c, pre, u6, u7, u8, u9, u10, u11, u12, u13, u14, u15, u16, u17, u18, u19, u20, u21, u22, u23, u24, u25, u26, rfl, hR⟩
    have hfr := hR.row.frozen hR.len
    obtain ⟨v0, hcell⟩ := hR.row.there hR.len
    have hlen := hR.len
    by_cases hc : c < 128
    · have hfin : Hid (enc u = pre ++ [UInt8.ofNat c]) := Lib.hid (by
        rw [← hR.all]
        obtain ⟨f, hf⟩ : ∃ f, 10 - pre.length = f + 1 := ⟨9 - pre.length, by omega⟩
        rw [hf, encF, if_pos hc])
      have hrow := hR.row.grow (b := c) hR.len (by omega)
      have hbel := hR.bel.setCell (p := ⟨W.heap.size, pre.length, none⟩) (Nat.le_refl _) (.int .u8 (c : Int))
      have hsl : ∀ w, (Instr.sliceAt 183 (.pointer (some ⟨W.heap.size, 0, none⟩)) none (some (.int .i64 ((pre.length : Int) + 1))) none).run Tryz.prog w = .ok (.slice (some ⟨W.heap.size, 0, none⟩) (pre.length + 1) 10) w := fun w => by
        simpa using slice_head (P := Tryz.prog) w 183 5 W.heap.size (pre.length + 1) 10 Tryz.underlying183 (by kernel_rfl) (by omega)
      have htext := hrow.text (P := Tryz.prog) 106 9 10 (pre.length + 1) Tryz.underlying106 Tryz.underlying5 Tryz.underlying9 (by simp)
      clear hrow hR
      go_wp2
      simp only [Exit.jump]
      go_ret
      exact ⟨by rw [hP.out, hfin.out]; rfl, hbel⟩
    · have HR := Lib.hid (hR.step hc)
      have hor := or128 (x := c % 256) (Nat.mod_lt _ (by decide))
      have hmm : Hid (c % 256 % 128 = c % 128) := Lib.hid (by omega)
      rw [hmm.out] at hor
      have hct : (c : Int) % 256 = ((c % 256 : Nat) : Int) := by omega
      have hdv : (c : Int) / 128 = ((c / 128 : Nat) : Int) := by omega
      generalize c % 256 = y at hor hct
      generalize c % 128 + 128 = z at hor HR
      generalize c / 128 = d at HR hdv
      go_wp2
      go_step3
      have e5 : ((pre.length : Int) + 1) = (((pre ++ [UInt8.ofNat z]).length : Nat) : Int) := by simp
      have hms : 10 - ((pre ++ [UInt8.ofNat z]).length) < 10 - pre.length := by simp; omega
      rw [e5]
      exact ⟨rfl, ⟨d, _, _, _, _, _, _, _, _, _, _, _, _, _, _, _, _, _, _, _, _, _, _, rfl, HR.out⟩, hms⟩
  · intro hgo
    go_wp2_with ((with_reducible refine hcode.mono ?_); rintro e w' ⟨rfl, rfl⟩)
    rename_i hK
    exact wp_label (hK _ _ (hgo _ _ ⟨u, [], _, _, _, _, _, _, _, _, _, _, _, _, _, _, _, _, _, _, _, _, _, rfl, hst.out⟩))
end Go.Proofs.YtjnphajkoopkgaaGreatDoor
