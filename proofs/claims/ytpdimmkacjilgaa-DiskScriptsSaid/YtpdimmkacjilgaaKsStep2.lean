/- One call on both disks: Read, Fuse, Names, Copy. No condition. -/
import Derived.Test.YtpdimmkacjilgaaKsStep
namespace Go.Proofs.Ytpdimmkacjilgaa
open Go.RowKit Go.Maps Go.ChangeMaps Go.WideMaps Go.Shelf
set_option linter.unusedVariables false
attribute [local go_sem ↓] Go.wp_at_zero Go.wp_at_succ
set_option maxHeartbeats 8000000 in
set_option maxRecDepth 100000 in
theorem step_2 (W w : World) (p q : Nat) (a : Ab) (o : OpR) (hi : OpIn W o) (h : Pr0 W p a q w) (hlen : a.L.length ≤ 1000) (hd : o.do_ = 2) :
    Calls Try.prog 11 #[dp p, dp q, opV o] w (Steps W a) := by
  have hP := h.boxed (opC o)
  have ha := hP.ok
  obtain ⟨i1, i2, i3, i4, i5⟩ := hi
  obtain ⟨dd, name, text, n, ad, c, keep⟩ := o
  simp only at hd i1 i2 i3 i4 i5
  subst hd
  have i1' : name.size ≤ maxLen := by unfold maxLen; omega
  obtain ⟨S, T, h1, h2, _⟩ := id hP
  have cd := read_do p a S _ name i1' h1
  have ck := kread_c q a T name _ h2 ha (by omega)
  have b1 := (hP.boxed.cell 1).trans rfl
  have HP := Lib.hid hP
  clear h1 h2 hP h
  unfold opC at *
  simp only [List.getElem?_toArray, List.getElem?_cons_zero, List.getElem?_cons_succ] at b1 cd ck
  unfold opV dp at *
  simp only
  generalize seeE a name.data.toList = v at *
  generalize (⟨(readV a name.data.toList).toArray⟩ : ByteArray) = t at *
  go_enter Try.func11, Try.ntmps11
  go_wp2_with fail
  (with_reducible refine cd.mono ?_)
  rintro en w1 ⟨rfl, hw⟩
  have hw' := hw.symm
  subst hw'
  clear hw
  go_wp2_with fail
  (with_reducible refine ck.mono ?_)
  rintro en w1 ⟨rfl, hw⟩
  have hw' := hw.symm
  subst hw'
  clear hw
  go_wp2
  go_ret3
  exact ⟨p, q, a, rfl, HP.out.drop, by omega⟩
theorem pr_fuse {W w : World} {p q B : Nat} {a : Ab} {cs : Array Value} {n : Int} (h : Pr W p (fuseA a n) q a B cs w) (hn : -1 ≤ n) : w.frozen? ⟨q, 2, none⟩ = false ∧ w.cell? ⟨q, 2, none⟩ = some (.int .i64 (fuseOf a)) ∧ Pr0 W p (fuseA a n) q (w.setCell ⟨q, 2, none⟩ (.int .i64 n)) := by
  obtain ⟨S, T, h1, ⟨v, hk, hq, hv⟩, h3, h4, h5, h6, h7, h8, h9⟩ := h
  have hfu : fuseOf (fuseA a n) = n := by
    unfold fuseOf fuseA
    simp only
    by_cases h0 : 0 ≤ n
    · rw [decide_eq_true h0, if_pos rfl]; omega
    · rw [decide_eq_false h0]; simp; omega
  refine ⟨hk.box.frozen 2, (hk.box.cell 2).trans rfl, S, T, h1.off (Off.one w ⟨q, 2, none⟩ _) (fun k _ hs e => h3 k hs (by rw [show k = q from e]; exact hq)), ⟨v, ⟨?_, own_off hk.row (Off.one w ⟨q, 2, none⟩ _) (fun k hk' e => hk.ne k hk' e)⟩, hq, hv⟩, h3, h4, h5, h6.trans ((Off.one w ⟨q, 2, none⟩ _).below h6.size fun k e => h5 k (by rw [show k = q from e]; exact hq))⟩
  rw [hfu]
  exact hk.box.set 2 (.int .i64 n)
set_option maxHeartbeats 8000000 in
set_option maxRecDepth 100000 in
theorem step_6 (W w : World) (p q : Nat) (a : Ab) (o : OpR) (hi : OpIn W o) (h : Pr0 W p a q w) (hlen : a.L.length ≤ 1000) (hd : o.do_ = 6) :
    Calls Try.prog 11 #[dp p, dp q, opV o] w (Steps W a) := by
  have hP := h.boxed (opC o)
  obtain ⟨i1, i2, i3, i4, i5⟩ := hi
  obtain ⟨dd, name, text, n, ad, c, keep⟩ := o
  simp only at hd i1 i2 i3 i4 i5
  subst hd
  have b3 := (hP.boxed.cell 3).trans rfl
  by_cases hn : n < -1
  · have cd := fuse_low p (w.alloc (.cells (opC ⟨6, name, text, n, ad, c, keep⟩) 34)) n hn
    have HP := Lib.hid hP
    clear hP h
    unfold opC at *
    simp only [List.getElem?_toArray, List.getElem?_cons_zero, List.getElem?_cons_succ] at b3 cd
    unfold opV dp at *
    simp only
    go_enter Try.func11, Try.ntmps11
    go_wp2_with fail
    (with_reducible refine cd.mono ?_)
    rintro en w1 ⟨rfl, hw⟩
    have hw' := hw.symm
    subst hw'
    clear hw
    go_wp2
    go_ret3
    exact ⟨p, q, a, rfl, HP.out.drop, by omega⟩
  · have cd := pr_disk hP (fun S hS hI => fuse_do p a S _ hI n (by omega) i3.2)
    clear hP h
    unfold opC at *
    simp only [List.getElem?_toArray, List.getElem?_cons_zero, List.getElem?_cons_succ] at b3 cd
    unfold opV dp at *
    simp only
    go_enter Try.func11, Try.ntmps11
    go_wp2_with fail
    (with_reducible refine cd.mono ?_)
    rintro en w1 ⟨rfl, hp1⟩
    have b3' : w1.cell? ⟨w.heap.size, 3, none⟩ = some (.int .i64 n) := (hp1.boxed.cell 3).trans rfl
    obtain ⟨z2, x2, hr⟩ := pr_fuse hp1 (by omega)
    have HR := Lib.hid hr
    clear hr hp1 cd
    go_wp2
    go_ret3
    exact ⟨p, q, _, rfl, HR.out, by show a.L.length ≤ _; omega⟩
set_option maxHeartbeats 8000000 in
set_option maxRecDepth 100000 in
theorem step_9 (W w : World) (p q : Nat) (a : Ab) (o : OpR) (hi : OpIn W o) (h : Pr0 W p a q w) (hlen : a.L.length ≤ 1000) (hd : ∀ k : Nat, k ≤ 8 → o.do_ ≠ k) :
    Calls Try.prog 11 #[dp p, dp q, opV o] w (Steps W a) := by
  have hP := h.boxed (opC o)
  have ha := hP.ok
  obtain ⟨dd, name, text, n, ad, c, keep⟩ := o
  simp only at hd
  have e0 : (dd == 0) = false := by rw [beq_eq_false_iff_ne]; exact hd 0 (by omega)
  have e1 : (dd == 1) = false := by rw [beq_eq_false_iff_ne]; exact hd 1 (by omega)
  have e2 : (dd == 2) = false := by rw [beq_eq_false_iff_ne]; exact hd 2 (by omega)
  have e3 : (dd == 3) = false := by rw [beq_eq_false_iff_ne]; exact hd 3 (by omega)
  have e4 : (dd == 4) = false := by rw [beq_eq_false_iff_ne]; exact hd 4 (by omega)
  have e5 : (dd == 5) = false := by rw [beq_eq_false_iff_ne]; exact hd 5 (by omega)
  have e6 : (dd == 6) = false := by rw [beq_eq_false_iff_ne]; exact hd 6 (by omega)
  have e7 : (dd == 7) = false := by rw [beq_eq_false_iff_ne]; exact hd 7 (by omega)
  have e8 : (dd == 8) = false := by rw [beq_eq_false_iff_ne]; exact hd 8 (by omega)
  obtain ⟨S, T, h1, h2, h3, h4, h5, h6, h7, h8, h9⟩ := id hP
  have hll : (namesA a).length ≤ 1000 := by
    unfold namesA
    split
    · simp; omega
    · simp
  have cd := names_do p a S _ h1 (by omega)
  have ck := fun (w' : World) (hb : Below _ _ w') => knames_c q a T w' (h2.off (Off.of_below (fun _ => False) hb) (fun _ _ x => x)) ha (by omega)
  have HP := Lib.hid (And.intro h1 (And.intro h2 (And.intro h3 (And.intro h4 (And.intro h5 h6)))))
  clear h1 h2 h3 h4 h5 h6 h7 h8 h9 hP h hd
  unfold opC at *
  unfold opV dp at *
  simp only
  have b0 : (w.alloc (.cells #[.int .i64 dd, .string name, .string text, .int .i64 n, .slice ad keep.length c] 34)).cell? ⟨w.heap.size, 0, none⟩ = some (.int .i64 dd) := (Box.new w 34 #[.int .i64 dd, .string name, .string text, .int .i64 n, .slice ad keep.length c]).cell 0
  generalize hl : namesA a = l at *
  go_enter Try.func11, Try.ntmps11
  go_wp2_with fail
  (with_reducible refine cd.mono ?_)
  rintro en w1 ⟨v1, rfl, hr1, hb1⟩
  have ck1 := ck w1 hb1
  have H1 := Lib.hid (And.intro hr1 hb1)
  clear cd ck hr1 hb1
  go_wp2_with fail
  (with_reducible refine ck1.mono ?_)
  rintro en w2 ⟨v2, rfl, hr2, hb2⟩
  have cs := ksame_c l (w.alloc (.cells #[.int .i64 dd, .string name, .string text, .int .i64 n, .slice ad keep.length c] 34)).heap.size v1 v2 w2 (own_below H1.out.1 hb2) (own_base hr2 H1.out.2.size) (by omega)
  have H2 := Lib.hid hb2
  clear ck1 hr2 hb2
  go_wp2_with fail
  (with_reducible refine cs.mono ?_)
  rintro en w3 ⟨rfl, hb3⟩
  have H3 := Lib.hid hb3
  clear cs hb3
  go_wp2
  go_ret3
  have hb : Below (w.alloc (.cells #[.int .i64 dd, .string name, .string text, .int .i64 n, .slice ad keep.length c] 34)).heap.size _ w3 := (H1.out.2.trans (H2.out.mono H1.out.2.size)).trans (H3.out.mono (Nat.le_trans H1.out.2.size H2.out.size))
  obtain ⟨h1, h2, h3, h4, h5, h6⟩ := HP.out
  exact ⟨p, q, a, rfl, ⟨S, T, h1.later hb, h2.off (Off.of_below (fun _ => False) hb) (fun _ _ x => x), h3, h4, h5, h6.trans (hb.mono h6.size)⟩, by omega⟩
end Go.Proofs.Ytpdimmkacjilgaa
