/- What varint.Put, the document's Put do, each by one contract: the bytes of the number, and only new memory; for every number. No condition. -/
import Derived.Test.YtcepdppnhhidoaaRows
import Derived.Test.YtcepdppnhhidoaaVMath
import Derived.Test.YtcepdppnhhidoaaBytes
import Derived.WalkKit
import Derived.ProofKit
import Derived.LoopTactic
import Derived.Lib.Hide
import Derived.ScopeJumps
import Derived.WalkMore
namespace Go.Proofs.Ytcepdppnhhidoaa
open Go.RowKit
theorem wp_scope_label {P : Program} {Q : Exit → Act → World → Prop} {a : Act} {w : World} {c X : Code} (l : Nat) (J : Act → World → Prop) (μ : Act → World → Nat) (hf : findLabel c l = some (Code.skip.seq X))
    (pass : ∀ a w, J a w → X.wp P (Exit.jump l (fun a' w' => J a' w' ∧ μ a' w' < μ a w) Q) a w)
    (first : (∀ a w, J a w → X.wp P (Exit.jump l J Q) a w) → c.wp P (Exit.jump l J Q) a w) : (Code.scope c).wp P Q a w :=
  wp_scope_jumps l J μ hf (first fun a w h => wp_mono (pass a w h) fun e a' w' hq => by
    cases e <;> first | exact hq | exact ⟨hq.1, hq.2.1⟩) fun a w h => wp_seq (wp_skip (pass a w h))
theorem codeOf_c (n : Int) (w : World) (h0 : -9223372036854775808 ≤ n) (h1 : n ≤ 9223372036854775807) :
    Calls Try.prog 24 #[.int .i64 n] w fun e w' => e = .returned (.int .u64 (code n : Nat)) ∧ w = w' := by
  by_cases h : n < 0
  · have hc := Lib.hid (show (2 * (-(n + 1)) + 1 : Int) = (code n : Nat) by unfold code; rw [if_pos h]; omega)
    go_enter Try.func24, Try.ntmps24
    go_wp2
    go_ret
    exact ⟨by rw [← hc.out]; rfl, rfl⟩
  · have hc := Lib.hid (show (2 * n : Int) = (code n : Nat) by unfold code; rw [if_neg h]; omega)
    go_enter Try.func24, Try.ntmps24
    go_wp2
    go_ret
    exact ⟨by rw [← hc.out]; rfl, rfl⟩
structure PutAt (W : World) (u : Nat) (c : Nat) (pre : List UInt8) (wr : World) : Prop where
  row : BRow wr 43 W.heap.size 10 pre
  bel : Below W.heap.size W wr
  lt : c < 128 ^ (10 - pre.length)
  len : pre.length < 10
  all : pre ++ encF (10 - pre.length) c = enc u
theorem PutAt.start (W : World) {u : Nat} (hu : u < 18446744073709551616) : PutAt W u u [] (W.alloc (.cells (Array.replicate 10 (.int .u8 0)) 43)) :=
  ⟨BRow.fresh W 43 10, (Below.refl _ _).alloc (Nat.le_refl _) _, lt10 hu, by decide, rfl⟩
theorem PutAt.step {W wr : World} {u c : Nat} {pre : List UInt8} (h : PutAt W u c pre wr) (hc : ¬ c < 128) :
    PutAt W u (c / 128) (pre ++ [UInt8.ofNat (c % 128 + 128)]) (wr.setCell ⟨W.heap.size, pre.length, none⟩ (.int .u8 ((c % 128 + 128 : Nat) : Int))) := by
  have hl := h.len
  have hlt := h.lt
  have h9 : pre.length + 1 < 10 := by
    rcases Nat.lt_or_ge (pre.length + 1) 10 with h1 | h1
    · exact h1
    · exfalso
      have h2 : pre.length = 9 := by omega
      rw [h2] at hlt
      omega
  have e1 : 10 - pre.length = (10 - (pre.length + 1)) + 1 := by omega
  refine ⟨h.row.grow hl (by omega), h.bel.setCell (Nat.le_refl _) _, ?_, by simpa using h9, ?_⟩
  · rw [e1, Nat.pow_succ] at hlt
    rw [List.length_append]
    show c / 128 < 128 ^ (10 - (pre.length + 1))
    omega
  · rw [← h.all, List.append_assoc, List.length_append]
    show pre ++ ([UInt8.ofNat (c % 128 + 128)] ++ encF (10 - (pre.length + 1)) (c / 128)) = _
    rw [e1, encF, if_neg hc]
    rfl
def PutJ (n : Int) (W : World) (u : Nat) (a' : Act) (w' : World) : Prop := ∃ (c : Nat) (pre : List UInt8) (u6 u7 u8 u9 u10 u11 u12 u13 u14 u15 u16 u17 u18 u19 u20 u21 u22 u23 u24 u25 u26 : Value),
  a' = { tmps := #[.int .i64 n, undef, .string ⟨#[]⟩, .int .u64 c, .pointer (some ⟨W.heap.size, 0, none⟩), .int .i64 pre.length, u6, u7, u8, u9, u10, u11, u12, u13, u14, u15, u16, u17, u18, u19, u20, u21, u22, u23, u24, u25, u26], defers := [] } ∧ PutAt W u c pre w'
theorem or128 {x : Nat} (h : x < 256) : bits .or .u8 ((x : Nat) : Int) 128 = ((x % 128 + 128 : Nat) : Int) := by
  have h1 : ∀ y : Fin 256, y.val ||| 128 = y.val % 128 + 128 := by decide +kernel
  rw [show (128 : Int) = ((128 : Nat) : Int) from rfl, u8_or_nat x 128 h (by decide), h1 ⟨x, h⟩]
def Good (W : World) (v : Value) (e : Ending) (w' : World) : Prop := e = .returned v ∧ Below W.heap.size W w'
theorem put_c (n : Int) (W : World) (h0 : -9223372036854775808 ≤ n) (h1 : n ≤ 9223372036854775807) :
    Calls Try.prog 11 #[.int .i64 n] W (Good W (.string ⟨(putL n).toArray⟩)) := by
  have hcl := code_lt h0 h1
  have hP : Hid (putL n = enc (code n)) := Lib.hid rfl
  have hcode := codeOf_c n W h0 h1
  generalize code n = u at *
  have hst := Lib.hid (PutAt.start W hcl)
  go_enter Try.func11, Try.ntmps11
  go_wp2
  refine wp_scope_label 0 (PutJ n W u) (fun a' _ => 10 - (intOf (a'.tmps.getD 5 undef)).toNat) rfl ?_ ?_
  · rintro a' w' ⟨c, pre, u6, u7, u8, u9, u10, u11, u12, u13, u14, u15, u16, u17, u18, u19, u20, u21, u22, u23, u24, u25, u26, rfl, hR⟩
    have hfr := hR.row.frozen hR.len
    obtain ⟨v0, hcell⟩ := hR.row.there hR.len
    have hlen := hR.len
    by_cases hc : c < 128
    · have hfin : Hid (enc u = pre ++ [UInt8.ofNat c]) := Lib.hid (by
        rw [← hR.all]
        obtain ⟨f, hf⟩ : ∃ f, 10 - pre.length = f + 1 := ⟨9 - pre.length, by omega⟩
        rw [hf, encF, if_pos hc])
      have hrow := hR.row.grow (b := c) hR.len (by omega)
      have hbel := hR.bel.setCell (p := ⟨W.heap.size, pre.length, none⟩) (Nat.le_refl _) (.int .u8 (c : Int))
      have hsl : ∀ w, (Instr.sliceAt 43 (.pointer (some ⟨W.heap.size, 0, none⟩)) none (some (.int .i64 ((pre.length : Int) + 1))) none).run Try.prog w = .ok (.slice (some ⟨W.heap.size, 0, none⟩) (pre.length + 1) 10) w := fun w => by
        simpa using slice_head (P := Try.prog) w 43 5 W.heap.size (pre.length + 1) 10 Try.underlying43 (by kernel_rfl) (by omega)
      have htext := hrow.text (P := Try.prog) 45 9 10 (pre.length + 1) Try.underlying45 Try.underlying5 Try.underlying9 (by simp)
      clear hrow hR
      go_wp2
      simp only [Exit.jump]
      go_ret
      exact ⟨by rw [hP.out, hfin.out]; rfl, hbel⟩
    · have HR := Lib.hid (hR.step hc)
      have hor := or128 (x := c % 256) (Nat.mod_lt _ (by decide))
      have hmm : Hid (c % 256 % 128 = c % 128) := Lib.hid (by omega)
      rw [hmm.out] at hor
      have hct : (c : Int) % 256 = ((c % 256 : Nat) : Int) := by omega
      have hdv : (c : Int) / 128 = ((c / 128 : Nat) : Int) := by omega
      generalize c % 256 = y at hor hct
      generalize c % 128 + 128 = z at hor HR
      generalize c / 128 = d at HR hdv
      go_wp2
      go_step3
      have e5 : ((pre.length : Int) + 1) = (((pre ++ [UInt8.ofNat z]).length : Nat) : Int) := by simp
      have hms : 10 - ((pre ++ [UInt8.ofNat z]).length) < 10 - pre.length := by simp; omega
      rw [e5]
      exact ⟨rfl, ⟨d, _, _, _, _, _, _, _, _, _, _, _, _, _, _, _, _, _, _, _, _, _, _, rfl, HR.out⟩, hms⟩
  · intro hgo
    go_wp2_with ((with_reducible refine hcode.mono ?_); rintro e w' ⟨rfl, rfl⟩)
    rename_i hK
    exact wp_label (hK _ _ (hgo _ _ ⟨u, [], _, _, _, _, _, _, _, _, _, _, _, _, _, _, _, _, _, _, _, _, _, rfl, hst.out⟩))
structure RPutAt (W : World) (u : Nat) (c : Nat) (pre : List UInt8) (v : Value) (wr : World) : Prop where
  row : BSl wr 5 W.heap.size v pre
  bel : Below W.heap.size W wr
  lt : c < 128 ^ (10 - pre.length)
  len : pre.length < 10
  all : pre ++ encF (10 - pre.length) c = enc u
  small : c ≤ 18446744073709551615
theorem RPutAt.start (W : World) {u : Nat} (hu : u < 18446744073709551616) : RPutAt W u u [] (.slice none 0 0) W :=
  ⟨BSl.nil W 5 _, Below.refl _ _, lt10 hu, by decide, rfl, by omega⟩
theorem RPutAt.step {W wr w1 : World} {u c : Nat} {pre : List UInt8} {v v1 : Value} (h : RPutAt W u c pre v wr) (hc : ¬ c < 128) (hv : BSl w1 5 W.heap.size v1 (pre ++ [UInt8.ofNat (c % 128 + 128)])) (hb : Below W.heap.size W w1) :
    RPutAt W u (c / 128) (pre ++ [UInt8.ofNat (c % 128 + 128)]) v1 w1 := by
  have hl := h.len
  have hlt := h.lt
  have h9 : pre.length + 1 < 10 := by
    rcases Nat.lt_or_ge (pre.length + 1) 10 with h1 | h1
    · exact h1
    · exfalso
      have h2 : pre.length = 9 := by omega
      rw [h2] at hlt
      omega
  have e1 : 10 - pre.length = (10 - (pre.length + 1)) + 1 := by omega
  refine ⟨hv, hb, ?_, by simpa using h9, ?_, by have := h.small; omega⟩
  · rw [e1, Nat.pow_succ] at hlt
    rw [List.length_append]
    show c / 128 < 128 ^ (10 - (pre.length + 1))
    omega
  · rw [← h.all, List.append_assoc, List.length_append]
    show pre ++ ([UInt8.ofNat (c % 128 + 128)] ++ encF (10 - (pre.length + 1)) (c / 128)) = _
    rw [e1, encF, if_neg hc]
    rfl
theorem info5 : (Try.prog.info? 5).map (fun i => (i.zero, i.size, i.bytes)) = some (some (.int .u8 0), 1, 1) := by kernel_rfl
set_option maxHeartbeats 1000000 in
set_option maxRecDepth 100000 in
theorem rput_go (n : Int) (W : World) (h0 : -9223372036854775808 ≤ n) (h1 : n ≤ 9223372036854775807) (u : Nat) (hcl : u < 18446744073709551616) (hu : (n < 0 ∧ -(n + 1) * 2 + 1 = u) ∨ (0 ≤ n ∧ n * 2 = u)) :
    Calls Try.prog 12 #[.int .i64 n] W (Good W (.string ⟨(enc u).toArray⟩)) := by
  obtain ⟨i0, hi, hz0, hz1, hz2⟩ := info_parts info5
  have hst := Lib.hid (RPutAt.start W hcl)
  rcases hu with ⟨hn, hu⟩ | ⟨hn, hu⟩
  all_goals
    first
    | (have hd : decide (n < 0) = true := decide_eq_true hn)
    | (have hd : decide (n < 0) = false := decide_eq_false (by omega))
    go_enter Try.func12, Try.ntmps12
    go_wp2
    go_loopw [4, 5] (fun x v wr => ∃ (c : Nat) (pre : List UInt8), x = .int .u64 c ∧ RPutAt W u c pre v wr) (fun x _ _ => (intOf x).toNat)
    case atStart => exact ⟨u, [], rfl, hst.out⟩
    case round =>
      obtain ⟨c, pre, rfl, hR⟩ := hrel
      have hlen := hR.len
      have hbs := hR.bel.size
      have hbel := hR.bel
      have hrow := hR.row
      clear hu hcl hst h0 h1
      by_cases hc : c < 128
      · have hfin : Hid (enc u = pre ++ [UInt8.ofNat c]) := Lib.hid (by
          rw [← hR.all]
          obtain ⟨f, hf⟩ : ∃ f, 10 - pre.length = f + 1 := ⟨9 - pre.length, by omega⟩
          rw [hf, encF, if_pos hc])
        clear hR
        go_wp2_with (at_builtin; refine wpList_append_bytes _ rfl (.tmp 27) (.tmp 30) _ rfl W.heap.size 5 i0 Try.underlying45 hi hz0 hz1 hz2 _ pre rfl (hrow.alloc _) ⟨wr.heap.size, 0, none⟩ 1 1 [UInt8.ofNat c] rfl rfl ?c1 ?c2 ?c3 ?_)
        case c1 => exact fun j y hy => append_one wr 5 c j y hy (by omega)
        case c2 => omega
        case c3 => simp; omega
        intro v1 w1 hv1 hg1 ho1
        have hbw1 : Below W.heap.size W w1 := (hbel.alloc hbs _).grown hg1 (by simp; omega) (fun k hk => (hrow.lt k hk).1)
        have htext := hv1.text (P := Try.prog) 45 9 Try.underlying45 Try.underlying5 Try.underlying9
        clear ho1 hg1 hv1
        go_wp2
        go_ret
        exact ⟨by rw [hfin.out]; rfl, hbw1⟩
      · have hS := fun v1 w1 hv hb => hR.step (v1 := v1) (w1 := w1) hc hv hb
        have HS := Lib.hid hS
        have hct : (c : Int) % 128 = ((c % 128 : Nat) : Int) := by omega
        have hdv : (c : Int) / 128 = ((c / 128 : Nat) : Int) := by omega
        have hlt : c / 128 < c := by omega
        have hdb : c / 128 ≤ 18446744073709551615 := by have := hR.small; omega
        have hy : c % 128 < 128 := Nat.mod_lt _ (by decide)
        have hz : ((c % 128 : Nat) : Int) + 128 = ((c % 128 + 128 : Nat) : Int) := by omega
        have hzl : c % 128 + 128 < 256 := by omega
        clear hS hR
        generalize c % 128 + 128 = z at HS hz hzl
        generalize c % 128 = y at hz hct hy
        generalize c / 128 = d at HS hdv hlt hdb
        go_wp2_with (at_builtin; refine wpList_append_bytes _ rfl (.tmp 18) (.tmp 23) _ rfl W.heap.size 5 i0 Try.underlying45 hi hz0 hz1 hz2 _ pre rfl (hrow.alloc _) ⟨wr.heap.size, 0, none⟩ 1 1 [UInt8.ofNat z] rfl rfl ?c1 ?c2 ?c3 ?_)
        case c1 => exact fun j y hy => append_one wr 5 z j y hy hzl
        case c2 => omega
        case c3 => simp; omega
        intro v1 w1 hv1 hg1 ho1
        have hbw1 : Below W.heap.size W w1 := (hbel.alloc hbs _).grown hg1 (by simp; omega) (fun k hk => (hrow.lt k hk).1)
        have HR := Lib.hid (HS.out v1 w1 hv1 hbw1)
        clear ho1 hg1 hv1
        go_wp2
        go_roundw
        case rel => exact ⟨d, _, rfl, HR.out⟩
        case measure => simp [intOf]; omega
theorem rput_c (n : Int) (W : World) (h0 : -9223372036854775808 ≤ n) (h1 : n ≤ 9223372036854775807) :
    Calls Try.prog 12 #[.int .i64 n] W (Good W (.string ⟨(putL n).toArray⟩)) := by
  have hc := code_lt h0 h1
  have h := rput_go n W h0 h1 (code n) hc (by
    unfold code
    by_cases hn : n < 0
    · rw [if_pos hn]; left; exact ⟨hn, by omega⟩
    · rw [if_neg hn]; right; exact ⟨by omega, by omega⟩)
  exact h
end Go.Proofs.Ytcepdppnhhidoaa
