/- idem: what the document's examples say, by a contract. No condition. -/
import Derived.Test.YtdhakekndinbeaaImSt
namespace Go.Proofs.Ytdhakekndinbeaa
open Go.RowKit
set_option linter.unusedVariables false
def lvA : List GH := [(7, 0, [(0, 40, 2)])]
def lvB : List GH := [(7, 0, [(0, 40, 2), (2, 42, 1)])]
theorem lv_a : noteG [] ⟨40, 2, 7, 0, 0⟩ = lvA := rfl
theorem lv_b : noteG lvA ⟨42, 1, 7, 0, 2⟩ = lvB := rfl
theorem lv_0 : chkG [] ⟨0, 1, 7, 0, 1⟩ = (0, false, 9) := rfl
theorem lv_1 : chkG lvB ⟨0, 2, 7, 0, 0⟩ = (40, true, 0) := rfl
theorem lv_2 : chkG lvB ⟨0, 1, 7, 0, 4⟩ = (0, false, 9) := rfl
theorem lv_3 : chkG lvB ⟨0, 1, 7, 0, 3⟩ = (0, false, 0) := rfl
theorem lv_7 : epoG lvB 7 = 0 := rfl
theorem lv_8 : epoG lvB 8 = -1 := rfl
theorem sent_v (e q p b : Int) (W : World) : Calls Try.prog 23 #[.int .i64 e, .int .i64 q, .int .i64 p, .int .i64 b] W (Good W (.agg #[.int .i64 b, .int .i64 p, .int .i64 7, .int .i64 e, .int .i64 q, .slice none 0 0])) := lsent_c e q p b W
theorem check_v {W w : World} {p : Nat} {G : List GH} (h : PO W p G w) (b : BN) (A : Option Addr) (m c : Nat) {n e : Int} {d : Bool} (hc : chkG G b = (n, d, e)) : Calls Try.prog 10 #[.pointer (some ⟨p, 0, none⟩), .agg #[.int .i64 b.base, .int .i64 b.span, .int .i64 b.prod, .int .i64 b.epoch, .int .i64 b.seq, .slice A m c]] w (fun en w' => en = .returned (.tuple #[.int .i64 n, .bool d, .int .i64 e]) ∧ PO W p G w' ∧ Below w.heap.size w w') := by
  have := h.is.check b A m c
  rw [hc] at this
  refine Calls.mono this ?_
  rintro en w' ⟨rfl, hb⟩
  exact ⟨rfl, h.later hb, hb⟩
theorem note_v {W w : World} {p : Nat} {G G' : List GH} (h : PO W p G w) (b : BN) (A : Option Addr) (m c : Nat) (hl : G.length ≤ 100000) (hn : noteG G b = G') : Calls Try.prog 12 #[.pointer (some ⟨p, 0, none⟩), .agg #[.int .i64 b.base, .int .i64 b.span, .int .i64 b.prod, .int .i64 b.epoch, .int .i64 b.seq, .slice A m c]] w (fun en w' => en = .returned (.tuple #[]) ∧ PO W p G' w' ∧ KeepO badP w w') := by
  rw [← hn]
  exact h.note b A m c hl
theorem epoch_v {W w : World} {p : Nat} {G : List GH} (h : PO W p G w) (n : Int) (hn : i64B n) {k : Int} (hk : epoG G n = k) : Calls Try.prog 14 #[.pointer (some ⟨p, 0, none⟩), .int .i64 n] w (fun en w' => en = .returned (.int .i64 k) ∧ PO W p G w' ∧ Below w.heap.size w w') := by
  have := h.is.epoch n hn
  rw [hk] at this
  refine Calls.mono this ?_
  rintro en w' ⟨rfl, hb⟩
  exact ⟨rfl, h.later hb, hb⟩
theorem print_v {W w : World} {p : Nat} {G : List GH} (h : PO W p G w) (hl : G.length ≤ 1000000) : Calls Try.prog 17 #[.pointer (some ⟨p, 0, none⟩)] w (fun en w' => en = .returned (.string ⟨(printL G).toArray⟩) ∧ PO W p G w' ∧ Below w.heap.size w w') := by
  refine Calls.mono (h.is.print h.ok hl) ?_
  rintro en w' ⟨rfl, hb⟩
  exact ⟨rfl, h.later hb, hb⟩
theorem parse_v {W w : World} {p : Nat} {G : List GH} (h : PO W p G w) (hl : G.length ≤ 10000) : Calls Try.prog 16 #[.string ⟨(printL G).toArray⟩] w (fun en w' => ∃ q, en = .returned (.tuple #[.pointer (some ⟨q, 0, none⟩), .int .i64 0]) ∧ PO W q G w' ∧ PO W p G w') := by
  refine Calls.mono (parse_back h.ok hl h.bel) ?_
  rintro en w' ⟨q, rfl, hq, hb⟩
  exact ⟨q, rfl, hq, h.later hb⟩
set_option maxHeartbeats 16000000 in
set_option maxRecDepth 100000 in
theorem live_c (W : World) : Calls Try.prog 19 #[] W (Yes W) := by
  have cn := new_c W
  have hP := PO.new (W := W) (Below.refl _ W)
  have HP := Lib.hid hP
  have cs := fun e q p b w => sent_v e q p b w
  unfold dp at cn
  clear hP
  go_enter Try.func19, Try.ntmps19
  go_wp2_with fail
  with_reducible refine cn.mono ?_
  rintro en w0 ⟨rfl, rfl⟩
  generalize (W.alloc (.cells #[.map none] 58)) = w0 at *
  clear cn
  generalize hp : W.heap.size = p at *
  have HQ := Lib.hid hp
  clear hp
  go_wp2_with fail
  with_reducible refine (cs _ _ _ _ _).mono ?_
  rintro en w1 ⟨rfl, hb⟩
  have H1 := Lib.hid (HP.out.later hb)
  clear hb HP
  go_wp2_with fail
  with_reducible refine (check_v H1.out ⟨0, 1, 7, 0, 1⟩ none 0 0 lv_0).mono ?_
  rintro en w2 ⟨rfl, h, _⟩
  have H2 := Lib.hid h
  clear h H1
  go_wp2_with fail
  with_reducible refine (cs _ _ _ _ _).mono ?_
  rintro en w1 ⟨rfl, hb⟩
  have H1 := Lib.hid (H2.out.later hb)
  clear hb H2
  go_wp2_with fail
  with_reducible refine (note_v H1.out ⟨40, 2, 7, 0, 0⟩ none 0 0 (by decide) lv_a).mono ?_
  rintro en w2 ⟨rfl, h, _⟩
  have H2 := Lib.hid h
  clear h H1
  go_wp2_with fail
  with_reducible refine (cs _ _ _ _ _).mono ?_
  rintro en w1 ⟨rfl, hb⟩
  have H1 := Lib.hid (H2.out.later hb)
  clear hb H2
  go_wp2_with fail
  with_reducible refine (note_v H1.out ⟨42, 1, 7, 0, 2⟩ none 0 0 (by decide) lv_b).mono ?_
  rintro en w2 ⟨rfl, h, _⟩
  have H2 := Lib.hid h
  clear h H1
  go_wp2_with fail
  with_reducible refine (cs _ _ _ _ _).mono ?_
  rintro en w1 ⟨rfl, hb⟩
  have H1 := Lib.hid (H2.out.later hb)
  clear hb H2
  go_wp2_with fail
  with_reducible refine (check_v H1.out ⟨0, 2, 7, 0, 0⟩ none 0 0 lv_1).mono ?_
  rintro en w2 ⟨rfl, h, _⟩
  have H2 := Lib.hid h
  clear h H1
  go_wp2_with fail
  with_reducible refine (cs _ _ _ _ _).mono ?_
  rintro en w1 ⟨rfl, hb⟩
  have H1 := Lib.hid (H2.out.later hb)
  clear hb H2
  go_wp2_with fail
  with_reducible refine (check_v H1.out ⟨0, 1, 7, 0, 4⟩ none 0 0 lv_2).mono ?_
  rintro en w2 ⟨rfl, h, _⟩
  have H2 := Lib.hid h
  clear h H1
  go_wp2_with fail
  with_reducible refine (cs _ _ _ _ _).mono ?_
  rintro en w1 ⟨rfl, hb⟩
  have H1 := Lib.hid (H2.out.later hb)
  clear hb H2
  go_wp2_with fail
  with_reducible refine (check_v H1.out ⟨0, 1, 7, 0, 3⟩ none 0 0 lv_3).mono ?_
  rintro en w2 ⟨rfl, h, _⟩
  have H2 := Lib.hid h
  clear h H1
  go_wp2_with fail
  with_reducible refine (print_v H2.out (by decide)).mono ?_
  rintro en w3 ⟨rfl, h, _⟩
  have H3 := Lib.hid h
  clear h H2
  go_wp2_with fail
  with_reducible refine (parse_v H3.out (by decide)).mono ?_
  rintro en w4 ⟨q, rfl, h, _⟩
  have H4 := Lib.hid h
  clear h H3
  go_wp2_with fail
  with_reducible refine (epoch_v H4.out 7 (by unfold i64B; omega) lv_7).mono ?_
  rintro en w5 ⟨rfl, h, _⟩
  have H5 := Lib.hid h
  clear h H4
  go_wp2_with fail
  with_reducible refine (epoch_v H5.out 8 (by unfold i64B; omega) lv_8).mono ?_
  rintro en w6 ⟨rfl, h, _⟩
  have H6 := Lib.hid h
  clear h H5
  go_wp2_with fail
  go_ret
  exact ⟨rfl, H6.out.bel⟩
end Go.Proofs.Ytdhakekndinbeaa
