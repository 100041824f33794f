/- The laws VarintPuts, VarintGets, VarintTakes, VarintBack walk to true for every argument; for texts of at most 2 to the 48 bytes. -/
import Derived.Test.YtcepdppnhhidoaaVTake
namespace Go.Proofs.Ytcepdppnhhidoaa
open Go.RowKit
set_option linter.unusedVariables false
theorem i64_bd {a : Int} (h : (Lit.int .i64 a).wf = true) : -9223372036854775808 ≤ a ∧ a ≤ 9223372036854775807 := by
  simpa [Lit.wf, IntKind.min, IntKind.max, IntKind.signed, IntKind.bits] using h
def Yes (W : World) (e : Ending) (w' : World) : Prop := e = .returned (.bool true) ∧ Below W.heap.size W w'
theorem varintPuts_walk (a0 : Int) (W : World) (w0 : (Lit.int .i64 a0).wf = true) :
    Calls Try.prog 3 #[.int .i64 a0] W (Yes W) := by
  obtain ⟨h0, h1⟩ := i64_bd w0
  have c1 := fun w => put_c a0 w h0 h1
  have c2 := fun w => rput_c a0 w h0 h1
  clear w0
  generalize (⟨(putL a0).toArray⟩ : ByteArray) = r at *
  go_enter Try.func3, Try.ntmps3
  go_wp2_with (first
    | ((with_reducible refine (c1 _).mono ?_); rintro e w1 ⟨rfl, hb1⟩)
    | ((with_reducible refine (c2 _).mono ?_); rintro e w2 ⟨rfl, hb2⟩)
    | ((with_reducible refine (live_c _).mono ?_); rintro e w3 ⟨rfl, hb3⟩))
  go_ret
  exact ⟨rfl, bjoin (bjoin hb1 hb2 rfl rfl) hb3 rfl rfl⟩
theorem varintGets_walk (a0 : ByteArray) (a1 : Int) (W : World) (s0 : a0.size ≤ 140737488351232) (w1 : (Lit.int .i64 a1).wf = true) :
    Calls Try.prog 4 #[.string a0, .int .i64 a1] W (Yes W) := by
  have c1 := fun w => get_c a0 a1 w (by omega)
  have c2 := fun w => rget_c a0 a1 w (by omega)
  unfold Tri at c1 c2
  clear w1
  generalize (getG a0 a1).1 = x at *
  generalize (getG a0 a1).2.1 = y at *
  generalize (getG a0 a1).2.2 = z at *
  go_enter Try.func4, Try.ntmps4
  go_wp2_with (first
    | ((with_reducible refine (c1 _).mono ?_); rintro e w1 ⟨rfl, rfl⟩)
    | ((with_reducible refine (c2 _).mono ?_); rintro e w2 ⟨rfl, hb2⟩)
    | ((with_reducible refine (live_c _).mono ?_); rintro e w3 ⟨rfl, hb3⟩))
  go_ret
  exact ⟨rfl, bjoin hb2 hb3 rfl rfl⟩
theorem varintTakes_walk (a0 : ByteArray) (a1 a2 : Int) (W : World) (s0 : a0.size ≤ 140737488351232) (w1 : (Lit.int .i64 a1).wf = true) (w2 : (Lit.int .i64 a2).wf = true) :
    Calls Try.prog 7 #[.string a0, .int .i64 a1, .int .i64 a2] W (Yes W) := by
  have c1 := fun w => take_c a0 a1 a2 w (by omega)
  have c2 := fun w => rtake_c a0 a1 a2 w (by omega)
  have c3 := fun w => text_c a0 w (by omega)
  have c4 := fun w => rtext_c a0 w (by omega)
  unfold Sri at c1 c2
  clear w1 w2
  generalize (takeG a0 a1 a2).1 = x at *
  generalize (takeG a0 a1 a2).2.1 = y at *
  generalize (takeG a0 a1 a2).2.2 = z at *
  generalize textG a0 = t at *
  go_enter Try.func7, Try.ntmps7
  go_wp2_with (first
    | ((with_reducible refine (c1 _).mono ?_); rintro e w1 ⟨rfl, hb1⟩)
    | ((with_reducible refine (c2 _).mono ?_); rintro e w2 ⟨rfl, hb2⟩)
    | ((with_reducible refine (c3 _).mono ?_); rintro e w3 ⟨rfl, hb3⟩)
    | ((with_reducible refine (c4 _).mono ?_); rintro e w4 ⟨rfl, hb4⟩)
    | ((with_reducible refine (live_c _).mono ?_); rintro e w5 ⟨rfl, hb5⟩))
  go_ret
  exact ⟨rfl, bjoin (bjoin (bjoin (bjoin hb1 hb2 rfl rfl) hb3 rfl rfl) hb4 rfl rfl) hb5 rfl rfl⟩
theorem putL_form {n : Int} (h0 : -9223372036854775808 ≤ n) (h1 : n ≤ 9223372036854775807) : ∃ cs b, putL n = cs ++ [b] ∧ Going cs ∧ b.toNat < 128 ∧ cs.length < 10 ∧ short b.toNat (cs.length + 1) = true ∧ val (cs ++ [b]) % 18446744073709551616 = code n := by
  have hc := code_lt h0 h1
  obtain ⟨cs, b, he, hg, hb, _⟩ := encF_form 9 (code n) (lt10 hc)
  have hp : putL n = cs ++ [b] := he
  have hl := putL_len n
  rw [hp, List.length_append] at hl
  have hl2 : cs.length < 10 := by simp at hl; omega
  have hv : val (cs ++ [b]) = code n := by rw [← he]; exact val_encF 10 _ (lt10 hc)
  have hs := short_enc cs b hg hb hl2
  have hm : val (cs ++ [b]) % 18446744073709551616 = code n := by rw [hv, Nat.mod_eq_of_lt hc]
  rw [hm, decide_eq_true (show enc (code n) = cs ++ [b] from he)] at hs
  exact ⟨cs, b, hp, hg, hb, hl2, hs, hm⟩
theorem getT_put {n : Int} (h0 : -9223372036854775808 ≤ n) (h1 : n ≤ 9223372036854775807) (a : Nat) (rest : List UInt8) : getT a (putL n ++ rest) = (n, (a : Int) + ((putL n).length : Int), 0) := by
  obtain ⟨cs, b, hp, hg, hb, hl, hs, hm⟩ := putL_form h0 h1
  have h2 : (putL n ++ rest).take cs.length = cs := by rw [hp, List.append_assoc]; simp
  have h3 : (putL n ++ rest)[cs.length]? = some b := by rw [hp, List.append_assoc]; simp
  have h4 := getT_at (a := a) (i := cs.length) (l := putL n ++ rest) (by rw [h2]; exact hg) hl h3 hb
  have h5 : (putL n ++ rest).take (cs.length + 1) = cs ++ [b] := by rw [take_one h3, h2]
  rw [hs, if_pos rfl, h5, hm, dec_code] at h4
  rw [h4, hp]
  simp
  omega
theorem getG_in {s : ByteArray} {a : Nat} (h : a ≤ s.size) : getG s a = getT a (s.data.toList.drop a) := by
  unfold getG
  rw [if_neg (by omega)]
  rfl
theorem extract_list (s : ByteArray) (i j : Nat) : (s.extract i j).data.toList = (s.data.toList.drop i).take (j - i) := by simp
theorem back_facts (a0 a2 : ByteArray) (n : Int) (h0 : -9223372036854775808 ≤ n) (h1 : n ≤ 9223372036854775807) (s2 : a2.size ≤ 140737488351232) :
    getG (a0 ++ ⟨(putL n).toArray⟩ ++ textG a2 ++ ⟨#[128]⟩) a0.size = (n, (a0.size : Int) + ((⟨(putL n).toArray⟩ : ByteArray).size : Int), 0) ∧
    takeG (a0 ++ ⟨(putL n).toArray⟩ ++ textG a2 ++ ⟨#[128]⟩) ((a0.size : Int) + ((⟨(putL n).toArray⟩ : ByteArray).size : Int)) a2.size = (a2, ((a0 ++ ⟨(putL n).toArray⟩ ++ textG a2).size : Int), 0) := by
  have hl : (⟨(putL n).toArray⟩ : ByteArray).size = (putL n).length := rfl
  have hl2 : (⟨(putL a2.size).toArray⟩ : ByteArray).size = (putL a2.size).length := rfl
  have hS : (a0 ++ ⟨(putL n).toArray⟩ ++ textG a2 ++ ⟨#[128]⟩).data.toList = a0.data.toList ++ (putL n ++ (putL a2.size ++ (a2.data.toList ++ [128]))) := by
    simp [textG]
  have hz : (a0 ++ ⟨(putL n).toArray⟩ ++ textG a2 ++ ⟨#[128]⟩).size = a0.size + (putL n).length + (putL a2.size).length + a2.size + 1 := by
    rw [ByteArray.size_append, ByteArray.size_append, ByteArray.size_append, hl, textG, ByteArray.size_append, hl2]
    show a0.size + (putL n).length + ((putL a2.size).length + a2.size) + 1 = _
    omega
  have hz2 : (a0 ++ ⟨(putL n).toArray⟩ ++ textG a2).size = a0.size + (putL n).length + (putL a2.size).length + a2.size := by
    rw [ByteArray.size_append, ByteArray.size_append, hl, textG, ByteArray.size_append, hl2]
    omega
  have hla : a0.data.toList.length = a0.size := rfl
  constructor
  · rw [getG_in (by omega), hS, List.drop_left' hla, getT_put h0 h1, hl]
  · have e1 : ((a0.size : Int) + ((⟨(putL n).toArray⟩ : ByteArray).size : Int)) = ((a0.size + (putL n).length : Nat) : Int) := by rw [hl]; omega
    have hg : getG (a0 ++ ⟨(putL n).toArray⟩ ++ textG a2 ++ ⟨#[128]⟩) ((a0.size + (putL n).length : Nat) : Int) = ((a2.size : Int), ((a0.size + (putL n).length : Nat) : Int) + ((putL a2.size).length : Int), 0) := by
      rw [getG_in (by omega), hS, ← List.append_assoc, List.drop_left' (by rw [List.length_append, hla]), getT_put (by omega) (by omega)]
    rw [e1, hz2]
    unfold takeG
    rw [hg]
    simp only
    rw [if_neg (by simp), if_neg (by omega), if_neg (by rw [hz]; omega)]
    have e2 : ((a0.size + (putL n).length : Nat) : Int) + ((putL a2.size).length : Int) = ((a0.size + (putL n).length + (putL a2.size).length : Nat) : Int) := by omega
    have e3 : ((a0.size + (putL n).length + (putL a2.size).length : Nat) : Int) + (a2.size : Int) = ((a0.size + (putL n).length + (putL a2.size).length + a2.size : Nat) : Int) := by omega
    rw [e2, e3]
    refine Prod.ext ?_ rfl
    apply ByteArray.ext
    apply Array.ext'
    simp only [Int.toNat_natCast]
    rw [extract_list, hS, show a0.size + (putL n).length + (putL a2.size).length + a2.size - (a0.size + (putL n).length + (putL a2.size).length) = a2.size by omega, ← List.append_assoc, ← List.append_assoc,
      List.drop_left' (by rw [List.length_append, List.length_append, hla]), List.take_left' (show a2.data.toList.length = a2.size from rfl)]
theorem cat_le {a b : ByteArray} {m n : Nat} (h : a.size ≤ m) (k : b.size ≤ n) : (a ++ b).size ≤ m + n := by rw [ByteArray.size_append]; exact Nat.add_le_add h k
theorem add_run {a b : ByteArray} {m n : Nat} (h : a.size ≤ m) (k : b.size ≤ n) (hmn : m + n ≤ 9223372036854775807) (w : World) : (Op.stringOp .add a b).run Try.prog w = .ok (.string (a ++ b)) w :=
  run_string_add_sum (w := w) a b (Nat.le_trans (Nat.add_le_add h k) hmn)
set_option maxHeartbeats 1000000 in
set_option maxRecDepth 100000 in
theorem back_go (a0 a2 r1 r2 x1 x2 x3 : ByteArray) (a1 : Int) (W : World)
    (c1 : ∀ w, Calls Try.prog 11 #[.int .i64 a1] w (Good w (.string r1)))
    (c2 : ∀ w, Calls Try.prog 22 #[.string a2] w (Good w (.string r2)))
    (c3 : ∀ w, Calls Try.prog 14 #[.string x3, .int .i64 a0.size] w fun e w' => e = .returned (Tri a1 ((a0.size : Int) + (r1.size : Int)) 0) ∧ w = w')
    (c4 : ∀ w, Calls Try.prog 20 #[.string x3, .int .i64 ((a0.size : Int) + (r1.size : Int)), .int .i64 a2.size] w (Good w (Sri a2 x2.size 0)))
    (d1 : ∀ w, (Op.stringOp .add a0 r1).run Try.prog w = .ok (.string x1) w) (d2 : ∀ w, (Op.stringOp .add x1 r2).run Try.prog w = .ok (.string x2) w) (d3 : ∀ w, (Op.stringOp .add x2 ⟨#[128]⟩).run Try.prog w = .ok (.string x3) w)
    (hs : a0.size ≤ 281474976710656) (hr : r1.size ≤ 281474976710656) :
    Calls Try.prog 8 #[.string a0, .int .i64 a1, .string a2] W (Yes W) := by
  unfold Tri at c3
  unfold Sri at c4
  go_enter Try.func8, Try.ntmps8
  go_wp2_with (first
    | ((with_reducible refine (c1 _).mono ?_); rintro e w1 ⟨rfl, hb1⟩)
    | ((with_reducible refine (c2 _).mono ?_); rintro e w2 ⟨rfl, hb2⟩)
    | ((with_reducible refine (c3 _).mono ?_); rintro e w3 ⟨rfl, rfl⟩)
    | ((with_reducible refine (c4 _).mono ?_); rintro e w4 ⟨rfl, hb4⟩)
    | ((with_reducible refine (live_c _).mono ?_); rintro e w5 ⟨rfl, hb5⟩))
  go_ret
  exact ⟨rfl, bjoin (bjoin (bjoin hb1 hb2 rfl rfl) hb4 rfl rfl) hb5 rfl rfl⟩
theorem h128 : (⟨#[128]⟩ : ByteArray).size ≤ 1 := Nat.le_refl 1
theorem varintBack_walk (a0 : ByteArray) (a1 : Int) (a2 : ByteArray) (W : World) (s0 : a0.size ≤ 140737488351232) (w1 : (Lit.int .i64 a1).wf = true) (s2 : a2.size ≤ 140737488351232) :
    Calls Try.prog 8 #[.string a0, .int .i64 a1, .string a2] W (Yes W) := by
  obtain ⟨h0, h1⟩ := i64_bd w1
  have f := back_facts a0 a2 a1 h0 h1 s2
  have hp : (⟨(putL a1).toArray⟩ : ByteArray).size ≤ 10 := put_size a1
  have ht : (textG a2).size ≤ 10 + 140737488351232 := cat_le (put_size a2.size) s2
  have z1 := cat_le s0 hp
  have z2 := cat_le z1 ht
  have z3 := cat_le z2 h128
  have z4 := Nat.le_trans z3 (show 140737488351232 + 10 + (10 + 140737488351232) + 1 ≤ 281474976710656 by decide)
  have d1 := add_run s0 hp (by decide)
  have d2 := add_run z1 ht (by decide)
  have d3 : ∀ w, (Op.stringOp .add (a0 ++ ⟨(putL a1).toArray⟩ ++ textG a2) ⟨#[128]⟩).run Try.prog w = .ok (.string (a0 ++ ⟨(putL a1).toArray⟩ ++ textG a2 ++ ⟨#[128]⟩)) w := add_run z2 h128 (by decide)
  have c1 : ∀ w, Calls Try.prog 11 #[.int .i64 a1] w (Good w (.string ⟨(putL a1).toArray⟩)) := fun w => put_c a1 w h0 h1
  have c2 : ∀ w, Calls Try.prog 22 #[.string a2] w (Good w (.string (textG a2))) := fun w => text_c a2 w (Nat.le_trans s2 (by decide))
  obtain ⟨X, hX⟩ : ∃ X, X = a0 ++ ⟨(putL a1).toArray⟩ ++ textG a2 ++ ⟨#[128]⟩ := ⟨_, rfl⟩
  obtain ⟨f1, f2⟩ := f
  rw [← hX] at z4 f1 f2 d3
  have c3 := fun w => get_c X a0.size w z4
  have c4 := fun w => take_c X ((a0.size : Int) + ((⟨(putL a1).toArray⟩ : ByteArray).size : Int)) a2.size w z4
  rw [f1] at c3
  rw [f2] at c4
  exact back_go a0 a2 ⟨(putL a1).toArray⟩ (textG a2) _ _ X a1 W c1 c2 c3 c4 d1 d2 d3 (Nat.le_trans s0 (by decide)) (Nat.le_trans hp (by decide))
end Go.Proofs.Ytcepdppnhhidoaa
