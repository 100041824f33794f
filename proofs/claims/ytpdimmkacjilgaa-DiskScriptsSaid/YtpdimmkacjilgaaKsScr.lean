/- The walk of DiskScripts. No condition. -/
import Derived.Test.YtpdimmkacjilgaaKsOpen
namespace Go.Proofs.Ytpdimmkacjilgaa
open Go.RowKit Go.Maps Go.ChangeMaps Go.WideMaps Go.Shelf
set_option linter.unusedVariables false
attribute [local go_sem ↓] Go.wp_at_zero Go.wp_at_succ
theorem Pr0.below {W w : World} {p q : Nat} {a : Ab} (h : Pr0 W p a q w) : Below W.heap.size W w := by
  obtain ⟨S, T, h1, h2, h3, h4, h5, h6⟩ := h
  exact h6
theorem Pr0.start {W w : World} {p : Nat} {n : Int} (h : Is w p ⟨n, false, 0, []⟩ (fun k => W.heap.size ≤ k)) (hb : Below W.heap.size W w) :
    Pr0 W p ⟨n, false, 0, []⟩ w.heap.size (w.alloc (.cells #[.int .i64 n, .slice none 0 0, .int .i64 (-1)] 31)) := by
  have h2 : Below w.heap.size w (w.alloc (.cells #[.int .i64 n, .slice none 0 0, .int .i64 (-1)] 31)) := (Below.refl _ _).alloc (Nat.le_refl _) _
  have hs := hb.size
  exact ⟨_, fun k => k = w.heap.size, h.tight.later h2, ⟨.slice none 0 0, ⟨Box.new _ _ _, World.ownsRow_nil _ _ _ _⟩, rfl, fun k hk => by cases hk⟩, fun k hk e => by have := hk.2; omega, fun k hk => hk.1, fun k hk => by omega, hb.trans (h2.mono hs)⟩
theorem op_cells {W w : World} {b off j : Nat} {o : OpR} (h : OpCells W ⟨b, off + j * 5, none⟩ o) (hb : b < W.heap.size) (hw : Below W.heap.size W w) :
    w.cell? ⟨b, off + j * 5, none⟩ = some (.int .i64 o.do_) ∧ w.cell? ⟨b, off + j * 5 + 1, none⟩ = some (.string o.name) ∧ w.cell? ⟨b, off + j * 5 + 2, none⟩ = some (.string o.text) ∧ w.cell? ⟨b, off + j * 5 + 3, none⟩ = some (.int .i64 o.n) ∧ w.cell? ⟨b, off + j * 5 + 4, none⟩ = some (.slice o.at_ o.keep.length o.c) := by
  obtain ⟨h0, h1, h2, h3, h4⟩ := h
  rw [addr_at] at h0 h1 h2 h3 h4
  exact ⟨cell_later h0 hb hw, cell_later h1 hb hw, cell_later h2 hb hw, cell_later h3 hb hw, cell_later h4 hb hw⟩
namespace diskScripts
set_option maxHeartbeats 16000000 in
set_option maxRecDepth 100000 in
theorem diskScripts_walk (a0 : Int) (A : Option Addr) (c : Nat) (l : List OpR) (W : World) (hw0 : (Lit.int .i64 a0).wf = true) (hi : OpsIn W A l) : Calls Try.prog 3 #[.int .i64 a0, .slice A l.length c] W (Good W (.bool true)) := by
  have hr := wf_range hw0
  clear hw0
  have cl := live_c
  by_cases hbad : a0 < 1 ∨ 4194304 < a0
  · have cb := new_bad a0 hr.1 hr.2 hbad W
    rcases hbad with h1 | h1
    · go_enter Try.func3, Try.ntmps3
      go_wp2_with (first
        | ((with_reducible refine cb.mono ?_); rintro en w1 ⟨rfl, hw⟩; (have hw' := hw.symm; subst hw'; clear hw))
        | ((with_reducible refine (cl _).mono ?_); rintro en w1 ⟨rfl, hb⟩))
      go_ret
      exact ⟨rfl, hb⟩
    · have h2 : ¬ a0 < 1 := by omega
      go_enter Try.func3, Try.ntmps3
      go_wp2_with (first
        | ((with_reducible refine cb.mono ?_); rintro en w1 ⟨rfl, hw⟩; (have hw' := hw.symm; subst hw'; clear hw))
        | ((with_reducible refine (cl _).mono ?_); rintro en w1 ⟨rfl, hb⟩))
      go_ret
      exact ⟨rfl, hb⟩
  · have h1 : ¬ a0 < 1 := fun e => hbad (.inl e)
    have h2 : ¬ 4194304 < a0 := fun e => hbad (.inr e)
    have cn := new_do a0 ⟨by omega, by omega⟩ W
    clear hbad
    unfold dp at *
    go_enter Try.func3, Try.ntmps3
    go_wp2_with fail
    (with_reducible refine cn.mono ?_)
    rintro en w1 ⟨rfl, hI, hb1⟩
    have ST := Lib.hid (Pr0.start hI hb1)
    clear cn hI hb1
    go_wp2_with fail
    go_loopw [5, 7, 8, 9] (fun d k i _ wr => ∃ j p q a, i = .int .i64 (j : Nat) ∧ d = dp p ∧ k = dp q ∧ j ≤ l.length ∧ j ≤ 60 ∧ a.L.length ≤ j ∧ Pr0 W p a q wr) (fun _ _ i _ _ => 60 - (intOf i).toNat)
    case atStart => exact ⟨0, _, _, _, rfl, rfl, rfl, Nat.zero_le _, by omega, Nat.zero_le _, ST.out⟩
    case round =>
      obtain ⟨j, p, q, a, rfl, rfl, rfl, hj, hj60, hla, hP⟩ := hrel
      have HP := Lib.hid hP
      have hbw := hP.below
      by_cases hgo : j < l.length ∧ j < 60
      · obtain ⟨hjl, hj6⟩ := hgo
        obtain ⟨o, ho⟩ : ∃ o, l[j]? = some o := ⟨_, List.getElem?_eq_getElem hjl⟩
        obtain ⟨b, off, rfl, hbl, hall⟩ := hi (by omega)
        obtain ⟨hc, hoi⟩ := hall j o ho
        obtain ⟨x0, x1, x2, x3, x4⟩ := op_cells hc hbl hbw
        have cs := step_c W wr p q a o hoi hP (by omega)
        have hji : (j : Int) < (l.length : Int) := by omega
        have hji6 : (j : Int) < 60 := by omega
        have HB := Lib.hid hbw
        have HI := Lib.hid hi
        have hts := hoi.text
        clear hall hc hoi hP hbw hi
        unfold opV dp at *
        by_cases ht : 300 < o.text.size
        · have ht' : (300 : Int) < (o.text.size : Int) := by omega
          go_wp2_with ((with_reducible refine (cl _).mono ?_); rintro en w2 ⟨rfl, hb⟩)
          go_ret
          exact ⟨rfl, HB.out.trans (hb.mono HB.out.size)⟩
        · have ht' : ¬ (300 : Int) < (o.text.size : Int) := by omega
          go_wp2_with fail
          (with_reducible refine cs.mono ?_)
          rintro en w2 ⟨p', q', a', rfl, hP2, hl2⟩
          have ch := holds_c W w2 p' q' a' hP2 (by omega)
          clear cs hP2
          unfold dp at *
          go_wp2_with fail
          (with_reducible refine ch.mono ?_)
          rintro en w3 ⟨rfl, hP3⟩
          have H3 := Lib.hid hP3
          clear ch hP3
          go_wp2_with fail
          go_roundw
          case rel => exact ⟨j + 1, p', q', a', by go_num, rfl, rfl, hjl, by omega, by omega, H3.out⟩
          case measure => simp [intOf]; omega
      · have HB := Lib.hid hbw
        rcases Nat.lt_or_ge j l.length with hjl | hjl
        · have h60 : j = 60 := by
            have : ¬ j < 60 := fun e => hgo ⟨hjl, e⟩
            omega
          have hji : (j : Int) < (l.length : Int) := by omega
          clear hgo hP hbw
          subst h60
          go_wp2_with ((with_reducible refine (cl _).mono ?_); rintro en w2 ⟨rfl, hb⟩)
          go_ret
          exact ⟨rfl, HB.out.trans (hb.mono HB.out.size)⟩
        · have hje : j = l.length := by omega
          clear hgo hP hbw
          subst hje
          go_wp2_with ((with_reducible refine (cl _).mono ?_); rintro en w2 ⟨rfl, hb⟩)
          go_ret
          exact ⟨rfl, HB.out.trans (hb.mono HB.out.size)⟩
end diskScripts
end Go.Proofs.Ytpdimmkacjilgaa
