/- The law RecordRow walks to true for every two records. -/
import Derived.Test.YtogfakcnjoilfaaRecLaw3
namespace Go.Proofs.Ytogfakcnjoilfaa
open Go.RowKit
set_option linter.unusedVariables false
/-- Two boxes of two records, each with its own headers. -/
structure Pair (W : World) (r q : Rec) (b1 b2 : Nat) (A B : Option Addr) (c d : Nat) (w : World) : Prop where
  one : Box w b1 24 (recC r A c)
  two : Box w b2 24 (recC q B d)
  r1 : RIn w r A c
  r2 : RIn w q B d
  bel : Below W.heap.size W w
theorem Pair.later {W w w' : World} {r q : Rec} {b1 b2 : Nat} {A B : Option Addr} {c d : Nat} (h : Pair W r q b1 b2 A B c d w) (hb : Below w.heap.size w w') : Pair W r q b1 b2 A B c d w' :=
  ⟨h.one.later hb, h.two.later hb, h.r1.below hb, h.r2.below hb, bjoin h.bel hb rfl rfl⟩
theorem Pair.alloc {W w : World} {r q : Rec} {b1 b2 : Nat} {A B : Option Addr} {c d : Nat} (h : Pair W r q b1 b2 A B c d w) (o : Obj) : Pair W r q b1 b2 A B c d (w.alloc o) :=
  h.later ((Below.refl _ _).alloc (Nat.le_refl _) _)
theorem pair_new {W : World} {r q : Rec} {A B : Option Addr} {c d : Nat} (hR : RIn W r A c) (hQ : RIn W q B d) :
    Pair W r q W.heap.size (W.heap.size + 1) A B c d ((W.alloc (.cells (recC r A c) 24)).alloc (.cells (recC q B d) 24)) := by
  have hb0 : Below W.heap.size W (W.alloc (.cells (recC r A c) 24)) := (Below.refl _ _).alloc (Nat.le_refl _) _
  have e : (W.alloc (.cells (recC r A c) 24)).heap.size = W.heap.size + 1 := by show (W.heap.push _).size = _; simp
  have hb1 : Below (W.alloc (.cells (recC r A c) 24)).heap.size (W.alloc (.cells (recC r A c) 24)) ((W.alloc (.cells (recC r A c) 24)).alloc (.cells (recC q B d) 24)) := (Below.refl _ _).alloc (Nat.le_refl _) _
  have h2 := Box.new (W.alloc (.cells (recC r A c) 24)) 24 (recC q B d)
  rw [e] at h2
  exact ⟨(Box.new W 24 (recC r A c)).later hb1, h2, (hR.below hb0).below hb1, (hQ.below hb0).below hb1, bjoin hb0 hb1 rfl rfl⟩
theorem rest_two (a b : List UInt8) : Rest ((⟨a.toArray⟩ : ByteArray) ++ ⟨b.toArray⟩) 0 (a ++ b) := by
  refine ⟨by omega, by omega, ?_⟩
  simp [ByteArray.data_append]
set_option maxHeartbeats 4000000 in
set_option maxRecDepth 100000 in
theorem row_few (r : Rec) (A : Option Addr) (c : Nat) (q : Rec) (B : Option Addr) (d : Nat) (W : World) (hR : RIn W r A c) (hQ : RIn W q B d) (h : ¬(r.heads.length ≤ 20 ∧ q.heads.length ≤ 20)) :
    Calls Try.prog 9 #[recV r A c, recV q B d] W (Yes W) := by
  have hf := fun w => few_c r A c w hR.len
  have hg := fun w => few_c q B d w hQ.len
  have P0 := Lib.hid (pair_new hR hQ)
  clear hR hQ
  by_cases hfew : r.heads.length ≤ 20
  · have hfew' : ¬ q.heads.length ≤ 20 := fun h' => h ⟨hfew, h'⟩
    rw [decide_eq_true hfew] at hf
    rw [decide_eq_false hfew'] at hg
    clear h hfew hfew'
    obtain ⟨place, time, bare, key, gone, value, heads⟩ := r
    obtain ⟨place', time', bare', key', gone', value', heads'⟩ := q
    unfold recV recC at *
    simp only at *
    go_enter Try.func9, Try.ntmps9
    go_wp2_with fail
    (with_reducible refine (hf _).mono ?_)
    rintro en w1 ⟨rfl, hb1⟩
    have P1 := Lib.hid (P0.out.later hb1)
    clear hb1 P0 hf
    obtain ⟨y0, y1, y2, y3, y4, y5, y6⟩ := recL_at P1.out.two
    go_wp2_with fail
    (with_reducible refine (hg _).mono ?_)
    rintro en w2 ⟨rfl, hb2⟩
    have P2 := Lib.hid (P1.out.later hb2)
    clear hb2 P1 hg y0 y1 y2 y3 y4 y5 y6
    go_wp2_with ((with_reducible refine (live_c _).mono ?_); rintro en w4 ⟨rfl, hb4⟩)
    go_ret
    exact ⟨rfl, bjoin P2.out.bel hb4 rfl rfl⟩
  · rw [decide_eq_false hfew] at hf
    clear h hfew hg
    obtain ⟨place, time, bare, key, gone, value, heads⟩ := r
    obtain ⟨place', time', bare', key', gone', value', heads'⟩ := q
    unfold recV recC at *
    simp only at *
    go_enter Try.func9, Try.ntmps9
    go_wp2_with fail
    (with_reducible refine (hf _).mono ?_)
    rintro en w1 ⟨rfl, hb1⟩
    have P1 := Lib.hid (P0.out.later hb1)
    clear hb1 P0 hf
    go_wp2_with ((with_reducible refine (live_c _).mono ?_); rintro en w4 ⟨rfl, hb4⟩)
    go_ret
    exact ⟨rfl, bjoin P1.out.bel hb4 rfl rfl⟩
theorem recE_ne {r : Rec} (h : okRec r = false) : recE r = 1 := by unfold recE; rw [h]; rfl
theorem recE_ok {r : Rec} (h : okRec r = true) : recE r = 0 := by unfold recE; rw [h]; rfl
set_option maxHeartbeats 4000000 in
set_option maxRecDepth 100000 in
theorem row_bad (r : Rec) (A : Option Addr) (c : Nat) (q : Rec) (B : Option Addr) (d : Nat) (W : World) (hR : RIn W r A c) (hQ : RIn W q B d) (hfr : r.heads.length ≤ 20) (hfq : q.heads.length ≤ 20)
    (h : ¬(okRec r = true ∧ okRec q = true)) :
    Calls Try.prog 9 #[recV r A c, recV q B d] W (Yes W) := by
  have hf := fun w => few_c r A c w hR.len
  have hg := fun w => few_c q B d w hQ.len
  rw [decide_eq_true hfr] at hf
  rw [decide_eq_true hfq] at hg
  have P0 := Lib.hid (pair_new hR hQ)
  clear hR hQ hfr hfq
  have he := fun w hx => enc_c r A c w hx
  have hk := fun w hx => enc_c q B d w hx
  generalize (if okRec r = true then encR r else ⟨#[]⟩) = X at he
  generalize (if okRec q = true then encR q else ⟨#[]⟩) = Y at hk
  have hone : recE r = 1 ∨ (recE r = 0 ∧ recE q = 1) := by
    cases h1 : okRec r with
    | false => exact .inl (recE_ne h1)
    | true =>
      cases h2 : okRec q with
      | false => exact .inr ⟨recE_ok h1, recE_ne h2⟩
      | true => exact absurd ⟨h1, h2⟩ h
  clear h
  rcases hone with h1 | ⟨h1, h2⟩
  · rw [h1] at he
    generalize recE q = eq at hk
    clear h1
    obtain ⟨place, time, bare, key, gone, value, heads⟩ := r
    obtain ⟨place', time', bare', key', gone', value', heads'⟩ := q
    unfold recV recC at *
    simp only at *
    go_enter Try.func9, Try.ntmps9
    go_wp2_with fail
    (with_reducible refine (hf _).mono ?_)
    rintro en w1 ⟨rfl, hb1⟩
    have P1 := Lib.hid (P0.out.later hb1)
    clear hb1 P0 hf
    obtain ⟨y0, y1, y2, y3, y4, y5, y6⟩ := recL_at P1.out.two
    go_wp2_with fail
    (with_reducible refine (hg _).mono ?_)
    rintro en w2 ⟨rfl, hb2⟩
    have P2 := Lib.hid (P1.out.later hb2)
    clear hb2 P1 hg y0 y1 y2 y3 y4 y5 y6
    obtain ⟨y0, y1, y2, y3, y4, y5, y6⟩ := recL_at P2.out.one
    go_wp2_with fail
    (with_reducible refine (he _ P2.out.r1).mono ?_)
    rintro en w3 ⟨rfl, hb3⟩
    have P3 := Lib.hid (P2.out.later hb3)
    clear hb3 P2 he y0 y1 y2 y3 y4 y5 y6
    obtain ⟨y0, y1, y2, y3, y4, y5, y6⟩ := recL_at P3.out.two
    go_wp2_with fail
    (with_reducible refine (hk _ P3.out.r2).mono ?_)
    rintro en w4 ⟨rfl, hb4⟩
    have P4 := Lib.hid (P3.out.later hb4)
    clear hb4 P3 hk y0 y1 y2 y3 y4 y5 y6
    go_wp2_with ((with_reducible refine (live_c _).mono ?_); rintro en w5 ⟨rfl, hb5⟩)
    go_ret
    exact ⟨rfl, bjoin P4.out.bel hb5 rfl rfl⟩
  · rw [h1] at he
    rw [h2] at hk
    clear h1 h2
    obtain ⟨place, time, bare, key, gone, value, heads⟩ := r
    obtain ⟨place', time', bare', key', gone', value', heads'⟩ := q
    unfold recV recC at *
    simp only at *
    go_enter Try.func9, Try.ntmps9
    go_wp2_with fail
    (with_reducible refine (hf _).mono ?_)
    rintro en w1 ⟨rfl, hb1⟩
    have P1 := Lib.hid (P0.out.later hb1)
    clear hb1 P0 hf
    obtain ⟨y0, y1, y2, y3, y4, y5, y6⟩ := recL_at P1.out.two
    go_wp2_with fail
    (with_reducible refine (hg _).mono ?_)
    rintro en w2 ⟨rfl, hb2⟩
    have P2 := Lib.hid (P1.out.later hb2)
    clear hb2 P1 hg y0 y1 y2 y3 y4 y5 y6
    obtain ⟨y0, y1, y2, y3, y4, y5, y6⟩ := recL_at P2.out.one
    go_wp2_with fail
    (with_reducible refine (he _ P2.out.r1).mono ?_)
    rintro en w3 ⟨rfl, hb3⟩
    have P3 := Lib.hid (P2.out.later hb3)
    clear hb3 P2 he y0 y1 y2 y3 y4 y5 y6
    obtain ⟨y0, y1, y2, y3, y4, y5, y6⟩ := recL_at P3.out.two
    go_wp2_with fail
    (with_reducible refine (hk _ P3.out.r2).mono ?_)
    rintro en w4 ⟨rfl, hb4⟩
    have P4 := Lib.hid (P3.out.later hb4)
    clear hb4 P3 hk y0 y1 y2 y3 y4 y5 y6
    go_wp2_with ((with_reducible refine (live_c _).mono ?_); rintro en w5 ⟨rfl, hb5⟩)
    go_ret
    exact ⟨rfl, bjoin P4.out.bel hb5 rfl rfl⟩
set_option maxHeartbeats 4000000 in
set_option maxRecDepth 100000 in
theorem row_good (r : Rec) (A : Option Addr) (c : Nat) (q : Rec) (B : Option Addr) (d : Nat) (W : World) (hR : RIn W r A c) (hQ : RIn W q B d) (hfr : r.heads.length ≤ 20) (hfq : q.heads.length ≤ 20)
    (hok : okRec r = true) (hok' : okRec q = true) :
    Calls Try.prog 9 #[recV r A c, recV q B d] W (Yes W) := by
  have hf := fun w => few_c r A c w hR.len
  have hg := fun w => few_c q B d w hQ.len
  rw [decide_eq_true hfr] at hf
  rw [decide_eq_true hfq] at hg
  have P0 := Lib.hid (pair_new hR hQ)
  clear hR hQ
  have he := fun w hx => enc_c r A c w hx
  have hk := fun w hx => enc_c q B d w hx
  rw [hok, if_pos rfl, recE_ok hok] at he
  rw [hok', if_pos rfl, recE_ok hok'] at hk
  have hz := enc_le hok
  have hz' := enc_le hok'
  have R0 := rest_two (encL r) (encL q)
  have hs1 := fun B D b d w hx hy => rsame_c r B D b d w (by omega) hx hy
  have hs2 := fun B D b d w hx hy => rsame_c q B D b d w (by omega) hx hy
  have hd1 : ∀ w, Calls Try.prog 18 #[.string (encR r ++ encR q), .int .i64 0] w (GotDec w r ((encR r).size : Int) 0) := fun w => by
    have h := pdec_c (encR r ++ encR q) 0 w (by rw [ByteArray.size_append]; omega)
    have e : decR (encR r ++ encR q) 0 = (r, 0 + ((encR r).size : Int), 0) := dec_enc hok R0
    rw [e, Int.zero_add] at h
    exact h
  have hd2 : ∀ w, Calls Try.prog 18 #[.string (encR r ++ encR q), .int .i64 ((encR r).size : Int)] w (GotDec w q (((encR r).size : Int) + ((encR q).size : Int)) 0) := fun w => by
    have h := pdec_c (encR r ++ encR q) (encR r).size w (by rw [ByteArray.size_append]; omega)
    have R1 : Rest (encR r ++ encR q) ((encR r).size : Int) (encL q ++ []) := by
      have := R0.next
      rw [Int.zero_add] at this
      rw [List.append_nil]
      exact this
    have e : decR (encR r ++ encR q) (encR r).size = (q, ((encR r).size : Int) + ((encR q).size : Int), 0) := dec_enc hok' R1
    rw [e] at h
    exact h
  have add1 : ∀ w, (Op.stringOp .add (encR r) (encR q)).run Try.prog w = .ok (.string (encR r ++ encR q)) w := fun w => run_string_add_sum (w := w) _ _ (by omega)
  clear hok hok' R0 hfr hfq
  generalize encR r = X at *
  generalize encR q = Y at *
  have hxy : (X.size : Int) + (Y.size : Int) ≤ 9223372036854775807 := by omega
  generalize hZ : X ++ Y = Z at *
  obtain ⟨place, time, bare, key, gone, value, heads⟩ := r
  obtain ⟨place', time', bare', key', gone', value', heads'⟩ := q
  unfold recV recC at *
  simp only at *
  go_enter Try.func9, Try.ntmps9
  go_wp2_with fail
  (with_reducible refine (hf _).mono ?_)
  rintro en w1 ⟨rfl, hb1⟩
  have P1 := Lib.hid (P0.out.later hb1)
  clear hb1 P0 hf
  obtain ⟨y0, y1, y2, y3, y4, y5, y6⟩ := recL_at P1.out.two
  go_wp2_with fail
  (with_reducible refine (hg _).mono ?_)
  rintro en w2 ⟨rfl, hb2⟩
  have P2 := Lib.hid (P1.out.later hb2)
  clear hb2 P1 hg y0 y1 y2 y3 y4 y5 y6
  obtain ⟨y0, y1, y2, y3, y4, y5, y6⟩ := recL_at P2.out.one
  go_wp2_with fail
  (with_reducible refine (he _ P2.out.r1).mono ?_)
  rintro en w3 ⟨rfl, hb3⟩
  have P3 := Lib.hid (P2.out.later hb3)
  clear hb3 P2 he y0 y1 y2 y3 y4 y5 y6
  obtain ⟨y0, y1, y2, y3, y4, y5, y6⟩ := recL_at P3.out.two
  go_wp2_with fail
  (with_reducible refine (hk _ P3.out.r2).mono ?_)
  rintro en w4 ⟨rfl, hb4⟩
  have P4 := Lib.hid (P3.out.later hb4)
  clear hb4 P3 hk y0 y1 y2 y3 y4 y5 y6
  go_wp2_with fail
  (with_reducible refine (hd1 _).mono ?_)
  rintro en w5 ⟨A3, d3, rfl, ho3, hb3⟩
  unfold recV recC
  simp only
  have H5 := Lib.hid (hin_alloc (hin_of_own ho3) (.cells #[.int .i64 place, .int .i64 time, .bool bare, .string key, .bool gone, .string value, .slice A3 heads.length d3] 24))
  have X5 := Lib.hid (Box.new w5 24 #[.int .i64 place, .int .i64 time, .bool bare, .string key, .bool gone, .string value, .slice A3 heads.length d3])
  have P5 := Lib.hid ((P4.out.later hb3).alloc (.cells #[.int .i64 place, .int .i64 time, .bool bare, .string key, .bool gone, .string value, .slice A3 heads.length d3] 24))
  clear ho3 hb3 P4 hd1
  go_wp2_with fail
  (with_reducible refine (hd2 _).mono ?_)
  rintro en w6 ⟨A4, d4, rfl, ho4, hb4⟩
  unfold recV recC
  simp only
  have H6 := Lib.hid (hin_alloc (hin_of_own ho4) (.cells #[.int .i64 place', .int .i64 time', .bool bare', .string key', .bool gone', .string value', .slice A4 heads'.length d4] 24))
  have H5' := Lib.hid (hin_alloc (H5.out.below hb4) (.cells #[.int .i64 place', .int .i64 time', .bool bare', .string key', .bool gone', .string value', .slice A4 heads'.length d4] 24))
  have X6 := Lib.hid ((X5.out.later hb4).alloc (.cells #[.int .i64 place', .int .i64 time', .bool bare', .string key', .bool gone', .string value', .slice A4 heads'.length d4] 24))
  have Y6 := Lib.hid (Box.new w6 24 #[.int .i64 place', .int .i64 time', .bool bare', .string key', .bool gone', .string value', .slice A4 heads'.length d4])
  have P6 := Lib.hid ((P5.out.later hb4).alloc (.cells #[.int .i64 place', .int .i64 time', .bool bare', .string key', .bool gone', .string value', .slice A4 heads'.length d4] 24))
  clear ho4 hb4 P5 hd2 H5 X5
  obtain ⟨y0, y1, y2, y3, y4, y5, y6⟩ := recL_at X6.out
  obtain ⟨z0, z1, z2, z3, z4, z5, z6⟩ := recL_at P6.out.one
  go_wp2_with fail
  (with_reducible refine (hs1 _ _ _ _ _ H5'.out P6.out.r1.heads).mono ?_)
  rintro en w7 ⟨rfl, hb7⟩
  have H7 := Lib.hid (H6.out.below hb7)
  have Y7 := Lib.hid (Y6.out.later hb7)
  have P7 := Lib.hid (P6.out.later hb7)
  clear hb7 P6 hs1 H6 H5' X6 Y6 y0 y1 y2 y3 y4 y5 y6 z0 z1 z2 z3 z4 z5 z6
  obtain ⟨y0, y1, y2, y3, y4, y5, y6⟩ := recL_at Y7.out
  obtain ⟨z0, z1, z2, z3, z4, z5, z6⟩ := recL_at P7.out.two
  go_wp2_with fail
  (with_reducible refine (hs2 _ _ _ _ _ H7.out P7.out.r2.heads).mono ?_)
  rintro en w8 ⟨rfl, hb8⟩
  have P8 := Lib.hid (P7.out.later hb8)
  clear hb8 P7 hs2 H7 Y7 y0 y1 y2 y3 y4 y5 y6 z0 z1 z2 z3 z4 z5 z6
  go_wp2_with ((with_reducible refine (live_c _).mono ?_); rintro en w9 ⟨rfl, hb9⟩)
  go_ret
  exact ⟨rfl, bjoin P8.out.bel hb9 rfl rfl⟩
theorem recordRow_walk (r : Rec) (A : Option Addr) (c : Nat) (q : Rec) (B : Option Addr) (d : Nat) (W : World) (hR : RIn W r A c) (hS : RSmall r) (hQ : RIn W q B d) (hT : RSmall q) :
    Calls Try.prog 9 #[recV r A c, recV q B d] W (Yes W) := by
  by_cases h : r.heads.length ≤ 20 ∧ q.heads.length ≤ 20
  · by_cases h2 : okRec r = true ∧ okRec q = true
    · exact row_good r A c q B d W hR hQ h.1 h.2 h2.1 h2.2
    · exact row_bad r A c q B d W hR hQ h.1 h.2 h2
  · exact row_few r A c q B d W hR hQ h
end Go.Proofs.Ytogfakcnjoilfaa
