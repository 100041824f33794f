/- The document's index: Find, Seek. No condition but that the entries are not too many. -/
import Derived.Test.YtljgiabaekddlaaIxRf
namespace Go.Proofs.Ytljgiabaekddlaa
open Go.RowKit
set_option linter.unusedVariables false
/-- The place of the last one of which a test is false. -/
def refG (Q : En → Bool) (a : Int) (L : List En) : Int := L.foldl (fun p e => if Q e = true then p else e.2.1) a
theorem refG_all (Q : En → Bool) : ∀ (L : List En) (a : Int), (∀ e ∈ L, Q e = true) → refG Q a L = a
  | [], a, _ => rfl
  | y :: l, a, h => by
    show refG Q (if Q y = true then a else y.2.1) l = a
    rw [if_pos (h y (List.mem_cons_self ..))]
    exact refG_all Q l a (fun e he => h e (List.mem_cons_of_mem _ he))
theorem refG_take (Q : En → Bool) : ∀ (L : List En) (a : Int), L.Pairwise (fun e f => Q e = true → Q f = true) → refG Q a L = (((L.takeWhile fun e => !Q e).getLast?).map fun e => e.2.1).getD a
  | [], a, _ => rfl
  | y :: l, a, h => by
    obtain ⟨h1, h2⟩ := List.pairwise_cons.1 h
    cases hq : Q y with
    | true =>
      rw [List.takeWhile_cons_of_neg (by rw [hq]; decide)]
      exact refG_all Q (y :: l) a (fun e he => by
        rcases List.mem_cons.1 he with rfl | he
        · exact hq
        · exact h1 e he hq)
    | false =>
      rw [List.takeWhile_cons_of_pos (by rw [hq]; decide)]
      show refG Q (if Q y = true then a else y.2.1) l = _
      rw [if_neg (by rw [hq]; decide), refG_take Q l y.2.1 h2, List.getLast?_cons]
      cases (l.takeWhile fun e => !Q e).getLast? <;> rfl
theorem refG_ahead {Q : En → Bool} {L : List En} (h : L.Pairwise (fun e f => Q e = true → Q f = true)) : refG Q 0 L = aheadG L Q := by
  rw [refG_take Q L 0 h]
  unfold aheadG
  cases (L.takeWhile fun e => !Q e).getLast? <;> rfl
theorem refG_snoc (Q : En → Bool) (a : Int) (L : List En) (e : En) : refG Q a (L ++ [e]) = if Q e = true then refG Q a L else e.2.1 := by
  unfold refG
  rw [List.foldl_append]
  rfl
theorem qF_pair {L : List En} (h : Srt L) (off : Int) : L.Pairwise (fun e f => qF off e = true → qF off f = true) :=
  h.imp (fun {e f} h hq => by unfold qF at *; simp only [decide_eq_true_eq] at *; omega)
theorem qS_pair {L : List En} (h : Srt L) (off : Int) : L.Pairwise (fun e f => qS off e = true → qS off f = true) :=
  h.imp (fun {e f} h hq => by unfold qS at *; simp only [decide_eq_true_eq] at *; omega)
set_option maxHeartbeats 4000000 in
set_option maxRecDepth 100000 in
theorem rfind_c (x : Ix) (A : Option Addr) (c base b : Nat) (off : Int) (W : World) (h : RxIs W base b x A c) (hn : x.L.length ≤ 1000000) :
    Calls Try.prog 13 #[.pointer (some ⟨b, 0, none⟩), .int .i64 off] W (Good W (.int .i64 (refG (qF off) 0 x.L))) := by
  obtain ⟨c0, c1, c2, c3, c4, c5, c6, f1, _⟩ := rx_cells h.box
  have HR := Lib.hid h.row
  obtain ⟨every, L, lo, lp, lt⟩ := x
  simp only at *
  clear h c0 c2 c3 c4 c5 c6 f1
  go_enter Try.func13, Try.ntmps13
  go_wp2_with fail
  go_loop [5, 6] (fun p i => ∃ k : Nat, i = .int .i64 k ∧ k ≤ L.length ∧ p = .int .i64 (refG (qF off) 0 (L.take k))) (fun _ i => L.length - (intOf i).toNat)
  case atStart => exact ⟨0, rfl, Nat.zero_le _, rfl⟩
  case round =>
    obtain ⟨k, rfl, hk, rfl⟩ := hrel
    by_cases hkl : k < L.length
    · have he := atE_some hkl
      obtain ⟨g, hA, q0, q1, q2, hg, hcap⟩ := rx_entry HR.out he
      subst hA
      have hsn : refG (qF off) 0 (L.take (k + 1)) = if qF off (atE L k) = true then refG (qF off) 0 (L.take k) else (atE L k).2.1 := by
        obtain ⟨hk1, hk2⟩ := List.getElem?_eq_some_iff.1 he
        rw [List.take_succ_eq_append_getElem hk1, hk2, refG_snoc]
      have hkli : (k : Int) < (L.length : Int) := by omega
      have hk0 : (0 : Int) ≤ (k : Int) := by omega
      clear he hg
      generalize atE L k = e at *
      obtain ⟨o, p, t⟩ := e
      simp only at q0 q1 q2 hsn
      unfold qF at hsn
      simp only at hsn
      by_cases ht : o ≤ off
      · have HS : Hid (refG (qF off) 0 (L.take (k + 1)) = p) := Lib.hid (by
          show refG (fun e => decide _) 0 _ = p
          refine hsn.trans ?_
          rw [if_neg (by rw [decide_eq_true_iff]; omega)])
        clear hsn
        go_wp2_with fail
        go_round
        case rel => exact ⟨k + 1, by go_num, hkl, by rw [HS.out]⟩
        case measure => simp [intOf]; omega
      · have HS : Hid (refG (qF off) 0 (L.take (k + 1)) = refG (qF off) 0 (L.take k)) := Lib.hid (by
          refine hsn.trans ?_
          rw [if_pos (by rw [decide_eq_true_iff]; omega)]
          rfl)
        clear hsn
        go_wp2_with fail
        go_round
        case rel => exact ⟨k + 1, by go_num, hkl, by rw [HS.out]⟩
        case measure => simp [intOf]; omega
    · have hkk : k = L.length := by omega
      have HT : Hid (refG (qF off) 0 (L.take k) = refG (qF off) 0 L) := Lib.hid (by rw [hkk, List.take_length])
      generalize refG (qF off) 0 (L.take k) = v at *
      go_wp2_with fail
      go_ret
      exact ⟨by rw [← HT.out]; rfl, Below.refl _ _⟩
set_option maxHeartbeats 4000000 in
set_option maxRecDepth 100000 in
theorem rseek_c (x : Ix) (A : Option Addr) (c base b : Nat) (off : Int) (W : World) (h : RxIs W base b x A c) (hn : x.L.length ≤ 1000000) :
    Calls Try.prog 15 #[.pointer (some ⟨b, 0, none⟩), .int .i64 off] W (Good W (.int .i64 (refG (qS off) 0 x.L))) := by
  obtain ⟨c0, c1, c2, c3, c4, c5, c6, f1, _⟩ := rx_cells h.box
  have HR := Lib.hid h.row
  obtain ⟨every, L, lo, lp, lt⟩ := x
  simp only at *
  clear h c0 c2 c3 c4 c5 c6 f1
  go_enter Try.func15, Try.ntmps15
  go_wp2_with fail
  go_loop [5, 6] (fun p i => ∃ k : Nat, i = .int .i64 k ∧ k ≤ L.length ∧ p = .int .i64 (refG (qS off) 0 (L.take k))) (fun _ i => L.length - (intOf i).toNat)
  case atStart => exact ⟨0, rfl, Nat.zero_le _, rfl⟩
  case round =>
    obtain ⟨k, rfl, hk, rfl⟩ := hrel
    by_cases hkl : k < L.length
    · have he := atE_some hkl
      obtain ⟨g, hA, q0, q1, q2, hg, hcap⟩ := rx_entry HR.out he
      subst hA
      have hsn : refG (qS off) 0 (L.take (k + 1)) = if qS off (atE L k) = true then refG (qS off) 0 (L.take k) else (atE L k).2.1 := by
        obtain ⟨hk1, hk2⟩ := List.getElem?_eq_some_iff.1 he
        rw [List.take_succ_eq_append_getElem hk1, hk2, refG_snoc]
      have hkli : (k : Int) < (L.length : Int) := by omega
      have hk0 : (0 : Int) ≤ (k : Int) := by omega
      clear he hg
      generalize atE L k = e at *
      obtain ⟨o, p, t⟩ := e
      simp only at q0 q1 q2 hsn
      unfold qS at hsn
      simp only at hsn
      by_cases ht : t < off
      · have HS : Hid (refG (qS off) 0 (L.take (k + 1)) = p) := Lib.hid (by
          show refG (fun e => decide _) 0 _ = p
          refine hsn.trans ?_
          rw [if_neg (by rw [decide_eq_true_iff]; omega)])
        clear hsn
        go_wp2_with fail
        go_round
        case rel => exact ⟨k + 1, by go_num, hkl, by rw [HS.out]⟩
        case measure => simp [intOf]; omega
      · have HS : Hid (refG (qS off) 0 (L.take (k + 1)) = refG (qS off) 0 (L.take k)) := Lib.hid (by
          refine hsn.trans ?_
          rw [if_pos (by rw [decide_eq_true_iff]; omega)]
          rfl)
        clear hsn
        go_wp2_with fail
        go_round
        case rel => exact ⟨k + 1, by go_num, hkl, by rw [HS.out]⟩
        case measure => simp [intOf]; omega
    · have hkk : k = L.length := by omega
      have HT : Hid (refG (qS off) 0 (L.take k) = refG (qS off) 0 L) := Lib.hid (by rw [hkk, List.take_length])
      generalize refG (qS off) 0 (L.take k) = v at *
      go_wp2_with fail
      go_ret
      exact ⟨by rw [← HT.out]; rfl, Below.refl _ _⟩
end Go.Proofs.Ytljgiabaekddlaa
