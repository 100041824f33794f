/- What varint.Get and the document's Get do at any place, what Take, Text and theirs do, and what the given examples answer; for texts of at most 2 to the 48 bytes. -/
import Derived.Test.YtcepdppnhhidoaaVRGet
import Derived.Test.YtcepdppnhhidoaaClone
import Derived.WalkLawsBesides
import Derived.Laws.Concat
import Derived.Laws.DeepStrings4
namespace Go.Proofs.Ytcepdppnhhidoaa
open Go.RowKit
set_option linter.unusedVariables false
/-- What Get hands back at any place. -/
def getG (s : ByteArray) (p : Int) : Int × Int × Int := if p < 0 ∨ (s.size : Int) < p then (0, 0, 1) else getT p.toNat (s.data.toList.drop p.toNat)
theorem getT_err {a : Nat} {l : List UInt8} (h : (getT a l).2.2 ≠ 0) : (getT a l).1 = 0 ∧ (getT a l).2.1 = 0 := by
  unfold getT at h ⊢
  split
  · rename_i h0
    rw [if_pos h0] at h
    exact absurd rfl h
  · exact ⟨rfl, rfl⟩
theorem getT_ok {a : Nat} {l : List UInt8} (h : (getT a l).2.2 = 0) : ∃ k : Nat, (getT a l).2.1 = ((a + k : Nat) : Int) ∧ 0 < k ∧ k ≤ l.length ∧ k ≤ 10 ∧ -9223372036854775808 ≤ (getT a l).1 ∧ (getT a l).1 ≤ 9223372036854775807 := by
  have hc := cont_le 10 l
  have hr := dec_range (u := val (l.take (cont 10 l + 1)) % 18446744073709551616) (Nat.mod_lt _ (by decide))
  unfold getT at h ⊢
  unfold getR at h ⊢
  by_cases h1 : cont 10 l = 10
  · rw [if_pos h1] at h; simp at h
  · rw [if_neg h1] at h ⊢
    by_cases h2 : l.length ≤ cont 10 l
    · rw [if_pos h2] at h; simp at h
    · rw [if_neg h2] at h ⊢
      by_cases h3 : enc (val (l.take (cont 10 l + 1)) % 18446744073709551616) = l.take (cont 10 l + 1)
      · rw [if_pos h3]
        exact ⟨cont 10 l + 1, by simp, by omega, by omega, by omega, hr.1, hr.2⟩
      · rw [if_neg h3] at h; simp at h
theorem getG_err {s : ByteArray} {p : Int} (h : (getG s p).2.2 ≠ 0) : (getG s p).1 = 0 ∧ (getG s p).2.1 = 0 := by
  unfold getG at h ⊢
  split
  · exact ⟨rfl, rfl⟩
  · rename_i h0
    rw [if_neg h0] at h
    exact getT_err h
theorem getG_ok {s : ByteArray} {p : Int} (h : (getG s p).2.2 = 0) : ∃ q : Nat, (getG s p).2.1 = q ∧ p < q ∧ q ≤ s.size ∧ -9223372036854775808 ≤ (getG s p).1 ∧ (getG s p).1 ≤ 9223372036854775807 := by
  unfold getG at h ⊢
  by_cases h0 : p < 0 ∨ (s.size : Int) < p
  · rw [if_pos h0] at h; simp at h
  · rw [if_neg h0] at h ⊢
    obtain ⟨k, h1, h2, h3, _, h4, h5⟩ := getT_ok h
    have hl : (s.data.toList.drop p.toNat).length = s.size - p.toNat := by simp
    exact ⟨p.toNat + k, h1, by omega, by omega, h4, h5⟩
theorem get_c (s : ByteArray) (p : Int) (W : World) (hs : s.size ≤ 281474976710656) :
    Calls Try.prog 14 #[.string s, .int .i64 p] W fun e w' => e = .returned (Tri (getG s p).1 (getG s p).2.1 (getG s p).2.2) ∧ W = w' := by
  by_cases h : p < 0 ∨ (s.size : Int) < p
  · have e : getG s p = (0, 0, 1) := by unfold getG; rw [if_pos h]
    rw [e]
    exact get_out s p W hs h
  · obtain ⟨a, rfl⟩ : ∃ a : Nat, p = a := ⟨p.toNat, by omega⟩
    have e : getG s a = getT a (s.data.toList.drop a) := by unfold getG; rw [if_neg h]; rfl
    rw [e]
    exact get_in s a W hs (by omega)
theorem rget_c (s : ByteArray) (p : Int) (W : World) (hs : s.size ≤ 281474976710656) :
    Calls Try.prog 15 #[.string s, .int .i64 p] W (Good W (Tri (getG s p).1 (getG s p).2.1 (getG s p).2.2)) := by
  by_cases h : p < 0 ∨ (s.size : Int) < p
  · have e : getG s p = (0, 0, 1) := by unfold getG; rw [if_pos h]
    rw [e]
    exact rget_out s p W hs h
  · obtain ⟨a, rfl⟩ : ∃ a : Nat, p = a := ⟨p.toNat, by omega⟩
    have e : getG s a = getT a (s.data.toList.drop a) := by unfold getG; rw [if_neg h]; rfl
    rw [e]
    exact rget_in s a W hs (by omega)
/-- What Take hands back. -/
def takeG (s : ByteArray) (p most : Int) : ByteArray × Int × Int :=
  if (getG s p).2.2 ≠ 0 then (⟨#[]⟩, 0, (getG s p).2.2) else
  if (getG s p).1 < 0 ∨ most < (getG s p).1 then (⟨#[]⟩, 0, 3) else
  if (s.size : Int) - (getG s p).2.1 < (getG s p).1 then (⟨#[]⟩, 0, 2) else
  (s.extract (getG s p).2.1.toNat ((getG s p).2.1 + (getG s p).1).toNat, (getG s p).2.1 + (getG s p).1, 0)
def Sri (r : ByteArray) (y z : Int) : Value := .tuple #[.string r, .int .i64 y, .int .i64 z]
theorem slice_str {P : Program} (w : World) (t : TypeId) (s : ByteArray) (k j : Nat) (h : P.underlying t = some .string) (h1 : k ≤ j) (h2 : j ≤ s.size) :
    (Instr.slice t (.string s) (some (.int .i64 (k : Int))) (some (.int .i64 (j : Int))) none).run P w = .ok (.string (s.extract k j)) w := by
  rw [run_slice_string_if w t s .i64 .i64 k j h, if_pos ⟨by omega, by omega⟩, if_pos ⟨by omega, by omega⟩]
  rfl
theorem clone_c (s : ByteArray) (W : World) (hs : s.size ≤ 281474976710656) : Calls Try.prog 29 #[.string s] W (Good W (.string s)) := by
  go_enter Try.func29, Try.ntmps29
  go_wp2_with (go_at_call 30; refine (Try.stringslite_Clone s _ hs).mono ?_; rintro e w1 ⟨rfl, hb⟩)
  go_ret
  exact ⟨rfl, hb⟩
set_option maxHeartbeats 1000000 in
set_option maxRecDepth 100000 in
theorem take_c (s : ByteArray) (p most : Int) (W : World) (hs : s.size ≤ 281474976710656) :
    Calls Try.prog 20 #[.string s, .int .i64 p, .int .i64 most] W (Good W (Sri (takeG s p most).1 (takeG s p most).2.1 (takeG s p most).2.2)) := by
  have hg := get_c s p W hs
  have hok := getG_ok (s := s) (p := p)
  have hT : Hid (takeG s p most = if (getG s p).2.2 ≠ 0 then (⟨#[]⟩, 0, (getG s p).2.2) else if (getG s p).1 < 0 ∨ most < (getG s p).1 then (⟨#[]⟩, 0, 3) else if (s.size : Int) - (getG s p).2.1 < (getG s p).1 then (⟨#[]⟩, 0, 2) else (s.extract (getG s p).2.1.toNat ((getG s p).2.1 + (getG s p).1).toNat, (getG s p).2.1 + (getG s p).1, 0)) := Lib.hid rfl
  generalize (getG s p).1 = n at *
  generalize (getG s p).2.1 = q at *
  generalize (getG s p).2.2 = er at *
  unfold Tri at hg
  by_cases he : er = 0
  · obtain ⟨k, hk, _, hks, hn0, hn1⟩ := hok he
    have hT1 := hT.out
    rw [if_neg (by simpa using he)] at hT1
    subst hk
    subst he
    by_cases h1 : n < 0
    · rw [if_pos (.inl h1)] at hT1
      have H1 := Lib.hid hT1
      clear hT1 hT hok
      go_enter Try.func20, Try.ntmps20
      go_wp2_with ((with_reducible refine hg.mono ?_); rintro e w' ⟨rfl, rfl⟩)
      go_ret3
      exact ⟨by rw [H1.out]; rfl, Below.refl _ _⟩
    · obtain ⟨m, rfl⟩ : ∃ m : Nat, n = m := ⟨n.toNat, by omega⟩
      have d1 : decide ((m : Int) < 0) = false := decide_eq_false (by omega)
      by_cases h2 : most < (m : Int)
      · rw [if_pos (.inr h2)] at hT1
        have H1 := Lib.hid hT1
        clear hT1 hT hok
        go_enter Try.func20, Try.ntmps20
        go_wp2_with ((with_reducible refine hg.mono ?_); rintro e w' ⟨rfl, rfl⟩)
        go_ret3
        exact ⟨by rw [H1.out]; rfl, Below.refl _ _⟩
      · rw [if_neg (by omega)] at hT1
        have d2 : decide (most < (m : Int)) = false := decide_eq_false h2
        by_cases h3 : (s.size : Int) - (k : Int) < (m : Int)
        · rw [if_pos h3] at hT1
          have H1 := Lib.hid hT1
          clear hT1 hT hok
          go_enter Try.func20, Try.ntmps20
          go_wp2_with ((with_reducible refine hg.mono ?_); rintro e w' ⟨rfl, rfl⟩)
          go_ret3
          exact ⟨by rw [H1.out]; rfl, Below.refl _ _⟩
        · rw [if_neg h3] at hT1
          have H1 : Hid (takeG s p most = (s.extract k (k + m), ((k + m : Nat) : Int), 0)) := Lib.hid (by rw [hT1]; rfl)
          have g1 : k + m ≤ s.size := by omega
          have g2 : (k : Int) + (m : Int) ≤ (s.size : Int) := by omega
          have hsl : ∀ w, (Instr.slice 9 (.string s) (some (.int .i64 (k : Int))) (some (.int .i64 ((k : Int) + (m : Int)))) none).run Try.prog w = .ok (.string (s.extract k (k + m))) w := fun w => by
            rw [show (k : Int) + (m : Int) = ((k + m : Nat) : Int) by omega]
            exact slice_str w 9 s k (k + m) Try.underlying9 (by omega) g1
          have hcl := clone_c (s.extract k (k + m)) W (by rw [ByteArray.size_extract]; omega)
          clear hT1 hT hok
          go_enter Try.func20, Try.ntmps20
          go_wp2_with (first
            | ((with_reducible refine hg.mono ?_); rintro e w' ⟨rfl, rfl⟩)
            | ((with_reducible refine hcl.mono ?_); rintro e w' ⟨rfl, hb⟩))
          go_ret3
          exact ⟨by rw [H1.out]; rfl, hb⟩
  · have H1 : Hid (takeG s p most = (⟨#[]⟩, 0, er)) := Lib.hid (by rw [hT.out, if_pos he])
    have e1 : (er == 0) = false := by rw [beq_eq_false_iff_ne]; exact he
    have e2 : (er != 0) = true := by simpa using he
    clear hT hok
    go_enter Try.func20, Try.ntmps20
    go_wp2_with ((with_reducible refine hg.mono ?_); rintro e w' ⟨rfl, rfl⟩)
    go_ret3
    exact ⟨by rw [H1.out]; rfl, Below.refl _ _⟩
set_option maxHeartbeats 1000000 in
set_option maxRecDepth 100000 in
theorem rtake_c (s : ByteArray) (p most : Int) (W : World) (hs : s.size ≤ 281474976710656) :
    Calls Try.prog 21 #[.string s, .int .i64 p, .int .i64 most] W (Good W (Sri (takeG s p most).1 (takeG s p most).2.1 (takeG s p most).2.2)) := by
  have hg := rget_c s p W hs
  have hok := getG_ok (s := s) (p := p)
  have hT : Hid (takeG s p most = if (getG s p).2.2 ≠ 0 then (⟨#[]⟩, 0, (getG s p).2.2) else if (getG s p).1 < 0 ∨ most < (getG s p).1 then (⟨#[]⟩, 0, 3) else if (s.size : Int) - (getG s p).2.1 < (getG s p).1 then (⟨#[]⟩, 0, 2) else (s.extract (getG s p).2.1.toNat ((getG s p).2.1 + (getG s p).1).toNat, (getG s p).2.1 + (getG s p).1, 0)) := Lib.hid rfl
  generalize (getG s p).1 = n at *
  generalize (getG s p).2.1 = q at *
  generalize (getG s p).2.2 = er at *
  unfold Tri Good at hg
  by_cases he : er = 0
  · obtain ⟨k, hk, _, hks, hn0, hn1⟩ := hok he
    have hT1 := hT.out
    rw [if_neg (by simpa using he)] at hT1
    subst hk
    subst he
    by_cases h1 : n < 0
    · rw [if_pos (.inl h1)] at hT1
      have H1 := Lib.hid hT1
      clear hT1 hT hok
      go_enter Try.func21, Try.ntmps21
      go_wp2_with ((with_reducible refine hg.mono ?_); rintro e w' ⟨rfl, hb⟩)
      go_ret3
      exact ⟨by rw [H1.out]; rfl, hb⟩
    · obtain ⟨m, rfl⟩ : ∃ m : Nat, n = m := ⟨n.toNat, by omega⟩
      have d1 : decide ((m : Int) < 0) = false := decide_eq_false (by omega)
      by_cases h2 : most < (m : Int)
      · rw [if_pos (.inr h2)] at hT1
        have H1 := Lib.hid hT1
        clear hT1 hT hok
        go_enter Try.func21, Try.ntmps21
        go_wp2_with ((with_reducible refine hg.mono ?_); rintro e w' ⟨rfl, hb⟩)
        go_ret3
        exact ⟨by rw [H1.out]; rfl, hb⟩
      · rw [if_neg (by omega)] at hT1
        have d2 : decide (most < (m : Int)) = false := decide_eq_false h2
        by_cases h3 : (s.size : Int) - (k : Int) < (m : Int)
        · rw [if_pos h3] at hT1
          have H1 := Lib.hid hT1
          clear hT1 hT hok
          go_enter Try.func21, Try.ntmps21
          go_wp2_with ((with_reducible refine hg.mono ?_); rintro e w' ⟨rfl, hb⟩)
          go_ret3
          exact ⟨by rw [H1.out]; rfl, hb⟩
        · rw [if_neg h3] at hT1
          have H1 : Hid (takeG s p most = (s.extract k (k + m), ((k + m : Nat) : Int), 0)) := Lib.hid (by rw [hT1]; rfl)
          have g1 : k + m ≤ s.size := by omega
          have g2 : (k : Int) + (m : Int) ≤ (s.size : Int) := by omega
          have hsl : ∀ w, (Instr.slice 9 (.string s) (some (.int .i64 (k : Int))) (some (.int .i64 ((k : Int) + (m : Int)))) none).run Try.prog w = .ok (.string (s.extract k (k + m))) w := fun w => by
            rw [show (k : Int) + (m : Int) = ((k + m : Nat) : Int) by omega]
            exact slice_str w 9 s k (k + m) Try.underlying9 (by omega) g1
          clear hT1 hT hok
          go_enter Try.func21, Try.ntmps21
          go_wp2_with ((with_reducible refine hg.mono ?_); rintro e w' ⟨rfl, hb⟩)
          go_ret3
          exact ⟨by rw [H1.out]; rfl, hb⟩
  · have H1 : Hid (takeG s p most = (⟨#[]⟩, 0, er)) := Lib.hid (by rw [hT.out, if_pos he])
    have e1 : (er == 0) = false := by rw [beq_eq_false_iff_ne]; exact he
    have e2 : (er != 0) = true := by simpa using he
    clear hT hok
    go_enter Try.func21, Try.ntmps21
    go_wp2_with ((with_reducible refine hg.mono ?_); rintro e w' ⟨rfl, hb⟩)
    go_ret3
    exact ⟨by rw [H1.out]; rfl, hb⟩
theorem code_len {n : Nat} (h : n ≤ 281474976710656) : -9223372036854775808 ≤ (n : Int) ∧ (n : Int) ≤ 9223372036854775807 := by omega
/-- A text behind its length. -/
def textG (s : ByteArray) : ByteArray := ⟨(putL s.size).toArray⟩ ++ s
theorem putL_len (n : Int) : (putL n).length ≤ 10 := encF_len 10 _
theorem put_size (n : Int) : (⟨(putL n).toArray⟩ : ByteArray).size ≤ 10 := putL_len n
theorem text_c (s : ByteArray) (W : World) (hs : s.size ≤ 281474976710656) : Calls Try.prog 22 #[.string s] W (Good W (.string (textG s))) := by
  have hp := put_c s.size W (code_len hs).1 (code_len hs).2
  have hl := put_size s.size
  have hx : Hid (textG s = ⟨(putL s.size).toArray⟩ ++ s) := Lib.hid rfl
  generalize (⟨(putL s.size).toArray⟩ : ByteArray) = r at *
  have hadd : ∀ w, (Op.stringOp .add r s).run Try.prog w = .ok (.string (r ++ s)) w := fun w => run_string_add_sum (w := w) r s (by omega)
  go_enter Try.func22, Try.ntmps22
  go_wp2_with ((with_reducible refine hp.mono ?_); rintro e w' ⟨rfl, hb⟩)
  go_ret
  exact ⟨by rw [hx.out]; rfl, hb⟩
theorem rtext_c (s : ByteArray) (W : World) (hs : s.size ≤ 281474976710656) : Calls Try.prog 23 #[.string s] W (Good W (.string (textG s))) := by
  have hp := rput_c s.size W (code_len hs).1 (code_len hs).2
  have hl := put_size s.size
  have hx : Hid (textG s = ⟨(putL s.size).toArray⟩ ++ s) := Lib.hid rfl
  generalize (⟨(putL s.size).toArray⟩ : ByteArray) = r at *
  have hadd : ∀ w, (Op.stringOp .add r s).run Try.prog w = .ok (.string (r ++ s)) w := fun w => run_string_add_sum (w := w) r s (by omega)
  go_enter Try.func23, Try.ntmps23
  go_wp2_with ((with_reducible refine hp.mono ?_); rintro e w' ⟨rfl, hb⟩)
  go_ret
  exact ⟨by rw [hx.out]; rfl, hb⟩
theorem bjoin {B B' : Nat} {a b c : World} (h : Below B a b) (k : Below B' b c) (hB : B' = b.heap.size) (hA : B = a.heap.size) : Below B a c := h.trans (k.mono (by rw [hB, hA]; have := h.size; omega))
theorem live_c (W : World) : Calls Try.prog 13 #[] W (Good W (.bool true)) := by
  have g1 := fun w => get_c ⟨#[128, 0]⟩ 0 w (by decide)
  have g2 := fun w => get_c ⟨#[120, 128, 1]⟩ 1 w (by decide)
  have g3 := fun w => take_c ⟨#[4, 97, 98, 99]⟩ 0 9 w (by decide)
  have p1 := fun w => put_c 0 w (by decide) (by decide)
  have p2 := fun w => put_c (-1) w (by decide) (by decide)
  have p3 := fun w => put_c 64 w (by decide) (by decide)
  rw [show getG ⟨#[128, 0]⟩ 0 = (0, 0, 3) by decide +kernel] at g1
  rw [show getG ⟨#[120, 128, 1]⟩ 1 = (64, 3, 0) by decide +kernel] at g2
  rw [show takeG ⟨#[4, 97, 98, 99]⟩ 0 9 = (⟨#[97, 98]⟩, 3, 0) by decide +kernel] at g3
  rw [show (⟨(putL 0).toArray⟩ : ByteArray) = ⟨#[0]⟩ by decide +kernel] at p1
  rw [show (⟨(putL (-1)).toArray⟩ : ByteArray) = ⟨#[1]⟩ by decide +kernel] at p2
  rw [show (⟨(putL 64).toArray⟩ : ByteArray) = ⟨#[128, 1]⟩ by decide +kernel] at p3
  unfold Tri at g1 g2
  unfold Sri at g3
  go_enter Try.func13, Try.ntmps13
  go_wp2_with (first
    | ((with_reducible refine (g1 _).mono ?_); rintro e w1 ⟨rfl, rfl⟩)
    | ((with_reducible refine (g2 _).mono ?_); rintro e w1 ⟨rfl, rfl⟩)
    | ((with_reducible refine (g3 _).mono ?_); rintro e w1 ⟨rfl, hb1⟩)
    | ((with_reducible refine (p1 _).mono ?_); rintro e w2 ⟨rfl, hb2⟩)
    | ((with_reducible refine (p2 _).mono ?_); rintro e w3 ⟨rfl, hb3⟩)
    | ((with_reducible refine (p3 _).mono ?_); rintro e w4 ⟨rfl, hb4⟩))
  go_ret
  exact ⟨rfl, bjoin (bjoin (bjoin hb1 hb2 rfl rfl) hb3 rfl rfl) hb4 rfl rfl⟩
end Go.Proofs.Ytcepdppnhhidoaa
