/- One call on both disks: Copy; every call. No condition. -/
import Derived.Test.YtpdimmkacjilgaaKsStep2
namespace Go.Proofs.Ytpdimmkacjilgaa
open Go.RowKit Go.Maps Go.ChangeMaps Go.WideMaps Go.Shelf
set_option linter.unusedVariables false
attribute [local go_sem ↓] Go.wp_at_zero Go.wp_at_succ
/-- A disk, its copy, the document's. -/
def Tr (W : World) (p : Nat) (b : Ab) (N : Nat) (a : Ab) (q : Nat) (B : Nat) (cs : Array Value) (w : World) : Prop :=
  ∃ S C T : Nat → Prop, Is w p b S ∧ Is w N a C ∧ KIs w q a T ∧ (∀ k, S k → ¬ C k) ∧ (∀ k, S k → ¬ T k) ∧ (∀ k, C k → ¬ T k) ∧ (∀ k, S k → W.heap.size ≤ k) ∧ (∀ k, C k → W.heap.size ≤ k) ∧ (∀ k, T k → W.heap.size ≤ k) ∧ Below W.heap.size W w ∧ Box w B 34 cs ∧ ¬ S B ∧ ¬ C B ∧ ¬ T B
theorem tr_disk {W w : World} {p N q B : Nat} {b a b' : Ab} {cs : Array Value} {P : Program} {f : FuncId} {args : Array Value} {v : Value} (h : Tr W p b N a q B cs w) (hc : ∀ S, Is w p b S → Calls P f args w (Does w p S v b')) :
    Calls P f args w (fun e w' => e = .returned v ∧ Tr W p b' N a q B cs w') := by
  obtain ⟨S, C, T, h1, h2, h3, d1, d2, d3, g1, g2, g3, hb, hx, x1, x2, x3⟩ := h
  refine (hc _ h1.tight).mono ?_
  rintro e w' ⟨rfl, hI, ho⟩
  have hs := hb.size
  have hBl := hx.lt
  refine ⟨rfl, _, _, _, hI, h2.tight.off ho (fun k _ hk hx => d1 k hx.1 hk.1), h3.tight.off ho (fun k hk hx => d2 k hx.1 hk.1), fun k hk hx => ?_, fun k hk hx => ?_, fun k hk hx => d3 k hk.1 hx.1, fun k hk => ?_, fun k hk => g2 k hk.1, fun k hk => g3 k hk.1, hb.trans (ho.below hs fun k hk => g1 k hk.1), hx.off ho (fun hk => x1 hk.1), fun hk => ?_, fun hk => x2 hk.1, fun hk => x3 hk.1⟩
  · rcases hk with hk | hk
    · exact d1 k hk.1 hx.1
    · have := hx.2; omega
  · rcases hk with hk | hk
    · exact d2 k hk.1 hx.1
    · have := hx.2; omega
  · rcases hk with hk | hk
    · exact g1 k hk.1
    · omega
  · rcases hk with hk | hk
    · exact x1 hk.1
    · omega
theorem Tr.boxed {W w : World} {p N q B : Nat} {b a : Ab} {cs : Array Value} (h : Tr W p b N a q B cs w) : Box w B 34 cs := by
  obtain ⟨S, C, T, h1, h2, h3, d1, d2, d3, g1, g2, g3, hb, hx, x1, x2, x3⟩ := h
  exact hx
theorem pr_copy {W w : World} {p q B : Nat} {a : Ab} {cs : Array Value} (h : Pr W p a q a B cs w) (hlen : a.L.length ≤ 1000000) :
    Calls Try.prog 14 #[dp p] w (fun e w' => e = .returned (dp w.heap.size) ∧ Tr W p a w.heap.size a q B cs w') := by
  obtain ⟨S, T, h1, h2, h3, h4, h5, h6, h7, h8, h9⟩ := h
  refine (copy_do p a S w h1 hlen).mono ?_
  rintro e w' ⟨rfl, c1, c2⟩
  have hs := h6.size
  have hBl := h7.lt
  exact ⟨rfl, _, _, _, h1.tight.later c2, c1, h2.tight.off (Off.of_below (fun _ => False) c2) (fun _ _ x => x), fun k hk hx => by have := hk.2; omega, fun k hk hx => h3 k hk.1 hx.1, fun k hk hx => by have := hx.2; omega, fun k hk => h4 k hk.1, fun k hk => by omega, fun k hk => h5 k hk.1, h6.trans (c2.mono hs), h7.later c2, fun hk => h8 hk.1, fun hk => by omega, fun hk => h9 hk.1⟩
theorem tr_kcopy {W w : World} {p N q B : Nat} {b a : Ab} {cs : Array Value} (h : Tr W p b N a q B cs w) (hlen : a.L.length ≤ 1000000) :
    Calls Try.prog 33 #[dp q] w (fun e w' => e = .returned (dp w.heap.size) ∧ Pr0 W N a w.heap.size w') := by
  obtain ⟨S, C, T, h1, h2, h3, d1, d2, d3, g1, g2, g3, hb, hx, x1, x2, x3⟩ := h
  refine (kcopy_c q a T w h3 hlen).mono ?_
  rintro e w' ⟨rfl, c1, c2⟩
  have hs := hb.size
  exact ⟨rfl, _, _, h2.tight.later c2, c1, fun k hk hx => by have := hk.2; omega, fun k hk => g2 k hk.1, fun k hk => by omega, hb.trans (c2.mono hs)⟩
def wrN : ByteArray := ⟨#[119, 114, 105, 116, 116, 101, 110]⟩
set_option maxHeartbeats 8000000 in
set_option maxRecDepth 100000 in
theorem step_8 (W w : World) (p q : Nat) (a : Ab) (o : OpR) (hi : OpIn W o) (h : Pr0 W p a q w) (hlen : a.L.length ≤ 1000) (hd : o.do_ = 8) :
    Calls Try.prog 11 #[dp p, dp q, opV o] w (Steps W a) := by
  have hP := h.boxed (opC o)
  obtain ⟨i1, i2, i3, i4, i5⟩ := hi
  obtain ⟨dd, name, text, n, ad, c, keep⟩ := o
  simp only at hd i1 i2 i3 i4 i5
  subst hd
  have i1' : name.size ≤ maxLen := by unfold maxLen; omega
  have cc := pr_copy hP (by omega)
  have hl2 := app_len (fuseA a (-1)) name wrN
  have hl3 : (fuseA a (-1)).L = a.L := rfl
  rw [hl3] at hl2
  clear hP h
  unfold opC at *
  unfold opV dp at *
  simp only
  generalize hN : (w.alloc (.cells #[.int .i64 8, .string name, .string text, .int .i64 n, .slice ad keep.length c] 34)).heap.size = N at cc
  have hN' : w.heap.size + 1 = N := by rw [← hN]; simp
  clear hN
  go_enter Try.func11, Try.ntmps11
  go_wp2_with fail
  (with_reducible refine cc.mono ?_)
  rintro en w1 ⟨rfl, ht1⟩
  have c1 := tr_disk ht1 (fun S hI => fuse_do p a S _ hI (-1) (by omega) (by omega))
  clear ht1 cc
  unfold dp at c1
  go_wp2_with fail
  (with_reducible refine c1.mono ?_)
  rintro en w2 ⟨rfl, ht2⟩
  have b2 : w2.cell? ⟨w.heap.size, 1, none⟩ = some (.string name) := (ht2.boxed.cell 1).trans rfl
  have c2 := tr_disk ht2 (fun S hI => app_do p _ S _ name wrN i1 (by decide) hI (by rw [hl3]; omega))
  clear ht2 c1
  unfold dp wrN at c2
  go_wp2_with fail
  (with_reducible refine c2.mono ?_)
  rintro en w3 ⟨rfl, ht3⟩
  have b3 : w3.cell? ⟨w.heap.size, 1, none⟩ = some (.string name) := (ht3.boxed.cell 1).trans rfl
  have c3 := tr_disk ht3 (fun S hI => drop_do p _ S _ name i1' hI)
  clear ht3 c2
  unfold dp at c3
  go_wp2_with fail
  (with_reducible refine c3.mono ?_)
  rintro en w4 ⟨rfl, ht4⟩
  have c4 := tr_kcopy ht4 (by omega)
  clear ht4 c3
  unfold dp at c4
  go_wp2_with fail
  (with_reducible refine c4.mono ?_)
  rintro en w5 ⟨rfl, hr⟩
  have HR := Lib.hid hr
  clear hr c4
  go_wp2
  go_ret3
  exact ⟨_, _, a, rfl, HR.out, by omega⟩
theorem step_c (W w : World) (p q : Nat) (a : Ab) (o : OpR) (hi : OpIn W o) (h : Pr0 W p a q w) (hlen : a.L.length ≤ 1000) :
    Calls Try.prog 11 #[dp p, dp q, opV o] w (Steps W a) := by
  by_cases h0 : o.do_ = 0
  · exact step_0 W w p q a o hi h hlen h0
  by_cases h1 : o.do_ = 1
  · exact step_1 W w p q a o hi h hlen h1
  by_cases h2 : o.do_ = 2
  · exact step_2 W w p q a o hi h hlen h2
  by_cases h3 : o.do_ = 3
  · exact step_3 W w p q a o hi h hlen h3
  by_cases h4 : o.do_ = 4
  · exact step_4 W w p q a o hi h hlen h4
  by_cases h5 : o.do_ = 5
  · exact step_5 W w p q a o hi h hlen h5
  by_cases h6 : o.do_ = 6
  · exact step_6 W w p q a o hi h hlen h6
  by_cases h7 : o.do_ = 7
  · exact step_7 W w p q a o hi h hlen h7
  by_cases h8 : o.do_ = 8
  · exact step_8 W w p q a o hi h hlen h8
  refine step_9 W w p q a o hi h hlen fun k hk e => ?_
  have : k = 0 ∨ k = 1 ∨ k = 2 ∨ k = 3 ∨ k = 4 ∨ k = 5 ∨ k = 6 ∨ k = 7 ∨ k = 8 := by omega
  rcases this with rfl | rfl | rfl | rfl | rfl | rfl | rfl | rfl | rfl
  · exact h0 e
  · exact h1 e
  · exact h2 e
  · exact h3 e
  · exact h4 e
  · exact h5 e
  · exact h6 e
  · exact h7 e
  · exact h8 e
end Go.Proofs.Ytpdimmkacjilgaa
