/- The law VarintShort walks to true for every two numbers and every cut. No condition. -/
import Derived.Test.YtcepdppnhhidoaaVLaws
namespace Go.Proofs.Ytcepdppnhhidoaa
open Go.RowKit
set_option linter.unusedVariables false
theorem encF_mono : ∀ (f u v : Nat), u ≤ v → (encF f u).length ≤ (encF f v).length
  | 0, _, _, _ => by simp [encF]
  | f + 1, u, v, h => by
    rw [encF, encF]
    by_cases hu : u < 128
    · rw [if_pos hu]
      split
      · exact Nat.le_refl _
      · simp
    · rw [if_neg hu, if_neg (by omega), List.length_cons, List.length_cons]
      exact Nat.succ_le_succ (encF_mono f (u / 128) (v / 128) (Nat.div_le_div_right h))
theorem putL_mono {n m : Int} (h0 : 0 ≤ n) (h : n ≤ m) : (putL n).length ≤ (putL m).length := by
  unfold putL enc code
  rw [if_neg (by omega), if_neg (by omega)]
  exact encF_mono 10 _ _ (by omega)
theorem putL_inj {n m : Int} (h0 : -9223372036854775808 ≤ n) (h1 : n ≤ 9223372036854775807) (h2 : -9223372036854775808 ≤ m) (h3 : m ≤ 9223372036854775807) (h : putL n = putL m) : n = m := by
  have e1 := val_enc (code_lt h0 h1)
  have e2 := val_enc (code_lt h2 h3)
  have h' : enc (code n) = enc (code m) := h
  rw [h', e2] at e1
  rw [← dec_code n, ← dec_code m, e1]
theorem putL_pos {n : Int} (h0 : -9223372036854775808 ≤ n) (h1 : n ≤ 9223372036854775807) : 0 < (putL n).length := by
  obtain ⟨cs, b, h, _⟩ := putL_form h0 h1
  rw [h, List.length_append]
  simp
theorem cut_get {n : Int} (h0 : -9223372036854775808 ≤ n) (h1 : n ≤ 9223372036854775807) {k : Nat} (hk : k < (putL n).length) : getG ((⟨(putL n).toArray⟩ : ByteArray).extract 0 k) 0 = (0, 0, 2) := by
  obtain ⟨cs, b, h, hg, _, hl, _⟩ := putL_form h0 h1
  have hl2 : (putL n).length = cs.length + 1 := by rw [h, List.length_append]; rfl
  have hd : ((⟨(putL n).toArray⟩ : ByteArray).extract 0 k).data.toList = cs.take k := by
    rw [extract_list, Nat.sub_zero, List.drop_zero]
    show (putL n).take k = _
    rw [h, List.take_append_of_le_length (by omega)]
  have h2 := getG_in (s := (⟨(putL n).toArray⟩ : ByteArray).extract 0 k) (a := 0) (Nat.zero_le _)
  rw [hd, List.drop_zero] at h2
  have h3 : getT 0 (cs.take k) = (0, 0, 2) := getT_cut (fun x hx => hg x (List.mem_of_mem_take hx)) (by rw [List.length_take]; omega)
  rw [h3] at h2
  exact h2
set_option maxHeartbeats 2000000 in
set_option maxRecDepth 100000 in
theorem short_go (n m ct : Int) (c k : Nat) (ra rb : ByteArray) (W : World)
    (c1 : ∀ w, Calls Try.prog 11 #[.int .i64 n] w (Good w (.string ra))) (c2 : ∀ w, Calls Try.prog 11 #[.int .i64 m] w (Good w (.string rb)))
    (c3 : ∀ w, Calls Try.prog 14 #[.string (ra.extract 0 k), .int .i64 0] w fun e w' => e = .returned (.tuple #[.int .i64 0, .int .i64 0, .int .i64 2]) ∧ w = w')
    (hc : c ≤ 9223372036854775807) (hct : ct = c ∨ ct = -(c : Int) - 1) (hpos : 0 < ra.size) (h10 : ra.size ≤ 10) (h10b : rb.size ≤ 10) (hk : (c : Int) % (ra.size : Int) = (k : Int)) (hkl : k < ra.size)
    (hge : (decide (0 ≤ n) = false) ∨ (decide (0 ≤ n) = true ∧ decide (n ≤ m) = false) ∨ (decide (0 ≤ n) = true ∧ decide (n ≤ m) = true ∧ decide ((rb.size : Int) < (ra.size : Int)) = false ∧ decide (rb.size < ra.size) = false))
    (heq : ((ra.toList == rb.toList) = true ∧ (n == m) = true) ∨ ((ra.toList == rb.toList) = false ∧ (n == m) = false)) :
    Calls Try.prog 9 #[.int .i64 n, .int .i64 m, .int .i64 ct] W (Yes W) := by
  have z0 : ((ra.size : Int) == 0) = false := by rw [beq_eq_false_iff_ne]; omega
  have hkt : (c : Int).tmod (ra.size : Int) = (k : Int) := by rw [Int.tmod_eq_emod_of_nonneg (Int.natCast_nonneg c)]; exact hk
  have n1 : -(c : Int) - 1 + 1 = -(c : Int) := by omega
  have n2 : decide (-(c : Int) - 1 < 0) = true := decide_eq_true (by omega)
  have n3 : decide ((c : Int) < 0) = false := decide_eq_false (by omega)
  rcases hct with rfl | rfl <;> rcases hge with g1 | ⟨g1, g2⟩ | ⟨g1, g2, g3, g4⟩ <;> rcases heq with ⟨q1, q2⟩ | ⟨q1, q2⟩
  all_goals
    go_enter Try.func9, Try.ntmps9
    go_wp2_with (first
      | ((with_reducible refine (c1 _).mono ?_); rintro e w1 ⟨rfl, hb1⟩)
      | ((with_reducible refine (c2 _).mono ?_); rintro e w2 ⟨rfl, hb2⟩)
      | ((with_reducible refine (c3 _).mono ?_); rintro e w3 ⟨rfl, rfl⟩)
      | ((with_reducible refine (live_c _).mono ?_); rintro e w4 ⟨rfl, hb4⟩))
    go_ret
    exact ⟨rfl, bjoin (bjoin hb1 hb2 rfl rfl) hb4 rfl rfl⟩
theorem str_eq_iff (l m : List UInt8) : ((⟨l.toArray⟩ : ByteArray).toList == (⟨m.toArray⟩ : ByteArray).toList) = decide (l = m) := by
  rw [ByteArray.toList_mk, ByteArray.toList_mk, Bool.eq_iff_iff]
  simp
theorem varintShort_walk (a0 a1 a2 : Int) (W : World) (w0 : (Lit.int .i64 a0).wf = true) (w1 : (Lit.int .i64 a1).wf = true) (w2 : (Lit.int .i64 a2).wf = true) :
    Calls Try.prog 9 #[.int .i64 a0, .int .i64 a1, .int .i64 a2] W (Yes W) := by
  obtain ⟨b0, b1⟩ := i64_bd w0
  obtain ⟨b2, b3⟩ := i64_bd w1
  obtain ⟨b4, b5⟩ := i64_bd w2
  have hp := putL_pos b0 b1
  have hl := putL_len a0
  obtain ⟨c, hc, hct⟩ : ∃ c : Nat, c ≤ 9223372036854775807 ∧ (a2 = c ∨ a2 = -(c : Int) - 1) := by
    by_cases hneg : a2 < 0
    · exact ⟨(-(a2 + 1)).toNat, by omega, .inr (by omega)⟩
    · exact ⟨a2.toNat, by omega, .inl (by omega)⟩
  have hkl : c % (putL a0).length < (putL a0).length := Nat.mod_lt _ hp
  have hcut := cut_get b0 b1 hkl
  have c3 : ∀ w, Calls Try.prog 14 #[.string ((⟨(putL a0).toArray⟩ : ByteArray).extract 0 (c % (putL a0).length)), .int .i64 0] w fun e w' => e = .returned (Tri 0 0 2) ∧ w = w' := fun w => by
    have h := get_c ((⟨(putL a0).toArray⟩ : ByteArray).extract 0 (c % (putL a0).length)) 0 w (by rw [ByteArray.size_extract]; show min _ (putL a0).length - 0 ≤ _; omega)
    rw [hcut] at h
    exact h
  refine short_go a0 a1 a2 c (c % (putL a0).length) ⟨(putL a0).toArray⟩ ⟨(putL a1).toArray⟩ W (fun w => put_c a0 w b0 b1) (fun w => put_c a1 w b2 b3) c3 hc hct hp hl (putL_len a1) ?_ hkl ?_ ?_
  · show (c : Int) % ((putL a0).length : Int) = ((c % (putL a0).length : Nat) : Int)
    simp
  · by_cases g1 : 0 ≤ a0
    · by_cases g2 : a0 ≤ a1
      · have hm := putL_mono g1 g2
        refine .inr (.inr ⟨decide_eq_true g1, decide_eq_true g2, decide_eq_false ?_, decide_eq_false ?_⟩)
        · show ¬ (((putL a1).length : Int) < ((putL a0).length : Int))
          omega
        · show ¬ ((putL a1).length < (putL a0).length)
          omega
      · exact .inr (.inl ⟨decide_eq_true g1, decide_eq_false g2⟩)
    · exact .inl (decide_eq_false g1)
  · by_cases h : a0 = a1
    · left
      subst h
      exact ⟨by rw [str_eq_iff]; simp, by simp⟩
    · right
      refine ⟨?_, by rw [beq_eq_false_iff_ne]; exact h⟩
      rw [str_eq_iff]
      exact decide_eq_false (fun e => h (putL_inj b0 b1 b2 b3 e))
end Go.Proofs.Ytcepdppnhhidoaa
