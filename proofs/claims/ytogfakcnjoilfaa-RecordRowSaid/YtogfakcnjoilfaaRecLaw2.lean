/- The law RecordEncodes walks to true for every record. -/
import Derived.Test.YtogfakcnjoilfaaRecLaws
import Derived.Deep.RegionHeld3
namespace Go.Proofs.Ytogfakcnjoilfaa
open Go.RowKit
set_option linter.unusedVariables false
/-- The cells of a record's box, as a record. -/
def C7 (w : World) (b : Nat) (place time : Int) (bare gone : Bool) (key value : ByteArray) (A : Option Addr) (n c : Nat) : Prop :=
  w.cell? ⟨b, 0, none⟩ = some (.int .i64 place) ∧ w.cell? ⟨b, 1, none⟩ = some (.int .i64 time) ∧ w.cell? ⟨b, 2, none⟩ = some (.bool bare) ∧ w.cell? ⟨b, 3, none⟩ = some (.string key) ∧ w.cell? ⟨b, 4, none⟩ = some (.bool gone) ∧ w.cell? ⟨b, 5, none⟩ = some (.string value) ∧ w.cell? ⟨b, 6, none⟩ = some (.slice A n c)
/-- Two boxes of one record, each with its own headers. -/
structure Two (W : World) (r : Rec) (b1 b2 : Nat) (A B : Option Addr) (c d : Nat) (w : World) : Prop where
  one : Box w b1 24 (recC r A c)
  two : Box w b2 24 (recC r B d)
  r1 : RIn w r A c
  r2 : RIn w r B d
  bel : Below W.heap.size W w
theorem Two.later {W w w' : World} {r : Rec} {b1 b2 : Nat} {A B : Option Addr} {c d : Nat} (h : Two W r b1 b2 A B c d w) (hb : Below w.heap.size w w') : Two W r b1 b2 A B c d w' :=
  ⟨h.one.later hb, h.two.later hb, h.r1.below hb, h.r2.below hb, bjoin h.bel hb rfl rfl⟩
def TwoS (W : World) (r : Rec) (b1 b2 : Nat) (A B : Option Addr) (c d : Nat) (w : World) : Prop :=
  C7 w b1 r.place r.time r.bare r.gone r.key r.value A r.heads.length c ∧ C7 w b2 r.place r.time r.bare r.gone r.key r.value B r.heads.length d ∧ Two W r b1 b2 A B c d w
theorem TwoS.of {W w : World} {r : Rec} {b1 b2 : Nat} {A B : Option Addr} {c d : Nat} (h : Two W r b1 b2 A B c d w) : TwoS W r b1 b2 A B c d w := ⟨recL_at h.one, recL_at h.two, h⟩
theorem TwoS.r1 {W w : World} {r : Rec} {b1 b2 : Nat} {A B : Option Addr} {c d : Nat} (h : TwoS W r b1 b2 A B c d w) : RIn w r A c := h.2.2.r1
theorem TwoS.r2 {W w : World} {r : Rec} {b1 b2 : Nat} {A B : Option Addr} {c d : Nat} (h : TwoS W r b1 b2 A B c d w) : RIn w r B d := h.2.2.r2
theorem TwoS.bel {W w : World} {r : Rec} {b1 b2 : Nat} {A B : Option Addr} {c d : Nat} (h : TwoS W r b1 b2 A B c d w) : Below W.heap.size W w := h.2.2.bel
theorem TwoS.step {W w w' : World} {r : Rec} {b1 b2 : Nat} {A B : Option Addr} {c d : Nat} (h : TwoS W r b1 b2 A B c d w) (hb : Below w.heap.size w w') : TwoS W r b1 b2 A B c d w' := .of (h.2.2.later hb)
set_option maxHeartbeats 4000000 in
set_option maxRecDepth 100000 in
theorem recordEncodes_walk (r : Rec) (A : Option Addr) (c : Nat) (W : World) (hR : RIn W r A c) (hS : RSmall r) :
    Calls Try.prog 3 #[recV r A c] W (Yes W) := by
  have hb0 : Below W.heap.size W (W.alloc (.cells (recC r A c) 24)) := (Below.refl _ _).alloc (Nat.le_refl _) _
  have hf := fun w => few_c r A c w hR.len
  have X0 := Lib.hid (Box.new W 24 (recC r A c))
  have R0 := Lib.hid (hR.below hb0)
  have B0 := Lib.hid hb0
  have HW := Lib.hid (fun (w : World) (B : Option Addr) (d : Nat) (hh : HIn w B r.heads) => (⟨hh, hR.len, hR.key, hR.value, hR.each⟩ : RIn w r B d))
  clear hb0 hR hS
  by_cases hfew : r.heads.length ≤ 20
  · rw [decide_eq_true hfew] at hf
    have hcp := fun w hx => rcopy_c r A c w hx (by omega)
    have hen := fun B d w hx => enc_c r B d w hx
    have hre := fun w hx => renc_c r A c w hx
    have hck := fun B d w hx => check_c r B d w hx
    have hrk := fun w hx => rcheck_c r A c w hx
    have hsm := fun B D b d w hx hy => rsame_c r B D b d w (by omega) hx hy
    generalize (if okRec r = true then encR r else ⟨#[]⟩) = res at *
    generalize recE r = er at *
    have HR := Lib.hid (fun (w w' : World) (B : Option Addr) (d : Nat) (hx : RIn w r B d) (hb : Below w.heap.size w w') => hx.below hb)
    obtain ⟨place, time, bare, key, gone, value, heads⟩ := r
    unfold recV recC at *
    simp only at *
    go_enter Try.func3, Try.ntmps3
    go_wp2_with fail
    (with_reducible refine (hf _).mono ?_)
    rintro en w1 ⟨rfl, hb1⟩
    have X1 := Lib.hid (X0.out.later hb1)
    have R1 := Lib.hid (HR.out _ _ _ _ R0.out hb1)
    have B1 := Lib.hid (bjoin B0.out hb1 rfl rfl)
    clear hb1 X0 R0 B0 hf
    obtain ⟨y0, y1, y2, y3, y4, y5, y6⟩ := recL_at X1.out
    go_wp2_with fail
    (with_reducible refine (hcp _ R1.out).mono ?_)
    rintro en w2 ⟨A2, d2, rfl, hh2, hb2⟩
    unfold recV recC
    simp only
    have RO := Lib.hid (HW.out _ A2 d2 (hin_alloc hh2 (.cells #[.int .i64 place, .int .i64 time, .bool bare, .string key, .bool gone, .string value, .slice A2 heads.length d2] 24)))
    have X2 := Lib.hid ((X1.out.later hb2).alloc (.cells #[.int .i64 place, .int .i64 time, .bool bare, .string key, .bool gone, .string value, .slice A2 heads.length d2] 24))
    have Y2 := Lib.hid (Box.new w2 24 #[.int .i64 place, .int .i64 time, .bool bare, .string key, .bool gone, .string value, .slice A2 heads.length d2])
    have R2 := Lib.hid ((HR.out _ _ _ _ R1.out hb2).below ((Below.refl _ _).alloc (Nat.le_refl _) (.cells #[.int .i64 place, .int .i64 time, .bool bare, .string key, .bool gone, .string value, .slice A2 heads.length d2] 24)))
    have B2 := Lib.hid ((bjoin B1.out hb2 rfl rfl).alloc (Nat.le_trans B1.out.size hb2.size) (.cells #[.int .i64 place, .int .i64 time, .bool bare, .string key, .bool gone, .string value, .slice A2 heads.length d2] 24))
    clear hb2 hh2 y0 y1 y2 y3 y4 y5 y6 X1 R1 B1 hcp
    go_wp2_with fail
    (with_reducible refine (hen _ _ _ RO.out).mono ?_)
    rintro en w3 ⟨rfl, hb3⟩
    have T3 := Lib.hid ((⟨X2.out, Y2.out, R2.out, RO.out, B2.out⟩ : Two W ⟨place, time, bare, key, gone, value, heads⟩ W.heap.size w2.heap.size A A2 c d2 _).later hb3)
    clear hb3 X2 Y2 R2 RO B2 hen
    obtain ⟨y0, y1, y2, y3, y4, y5, y6⟩ := recL_at T3.out.one
    go_wp2_with fail
    (with_reducible refine (hre _ T3.out.r1).mono ?_)
    rintro en w4 ⟨rfl, hb4⟩
    have T4 := Lib.hid (T3.out.later hb4)
    clear hb4 y0 y1 y2 y3 y4 y5 y6 T3 hre
    have hS := TwoS.of T4.out
    go_wp2_with fail
    go_region_held3 (fun w => (w.cell? ⟨W.heap.size, 0, none⟩ = some (.int .i64 place) ∧ w.cell? ⟨W.heap.size, 1, none⟩ = some (.int .i64 time) ∧ w.cell? ⟨W.heap.size, 2, none⟩ = some (.bool bare) ∧ w.cell? ⟨W.heap.size, 3, none⟩ = some (.string key) ∧ w.cell? ⟨W.heap.size, 4, none⟩ = some (.bool gone) ∧ w.cell? ⟨W.heap.size, 5, none⟩ = some (.string value) ∧ w.cell? ⟨W.heap.size, 6, none⟩ = some (.slice A heads.length c)) ∧ (w.cell? ⟨w2.heap.size, 0, none⟩ = some (.int .i64 place) ∧ w.cell? ⟨w2.heap.size, 1, none⟩ = some (.int .i64 time) ∧ w.cell? ⟨w2.heap.size, 2, none⟩ = some (.bool bare) ∧ w.cell? ⟨w2.heap.size, 3, none⟩ = some (.string key) ∧ w.cell? ⟨w2.heap.size, 4, none⟩ = some (.bool gone) ∧ w.cell? ⟨w2.heap.size, 5, none⟩ = some (.string value) ∧ w.cell? ⟨w2.heap.size, 6, none⟩ = some (.slice A2 heads.length d2)) ∧ Two W ⟨place, time, bare, key, gone, value, heads⟩ W.heap.size w2.heap.size A A2 c d2 w)
      (first | exact TwoS.step (W := W) (r := ⟨place, time, bare, key, gone, value, heads⟩) (b1 := W.heap.size) (b2 := w2.heap.size) (A := A) (B := A2) (c := c) (d := d2) hS ((Below.refl _ _).drew) | exact TwoS.step (W := W) (r := ⟨place, time, bare, key, gone, value, heads⟩) (b1 := W.heap.size) (b2 := w2.heap.size) (A := A) (B := A2) (c := c) (d := d2) (by assumption) (by assumption))
      (first
        | ((with_reducible refine (hck _ _ _ ?_).mono ?_); (exact TwoS.r2 (W := W) (r := ⟨place, time, bare, key, gone, value, heads⟩) (b1 := W.heap.size) (b2 := w2.heap.size) (A := A) (B := A2) (c := c) (d := d2) (by assumption)); rintro e w5 ⟨rfl, hb5⟩)
        | ((with_reducible refine (hrk _ ?_).mono ?_); (exact TwoS.r1 (W := W) (r := ⟨place, time, bare, key, gone, value, heads⟩) (b1 := W.heap.size) (b2 := w2.heap.size) (A := A) (B := A2) (c := c) (d := d2) (by assumption)); rintro e w5 ⟨rfl, hb5⟩)
        | ((with_reducible refine (hsm _ _ _ _ _ ?_ ?_).mono ?_); (exact (TwoS.r2 (W := W) (r := ⟨place, time, bare, key, gone, value, heads⟩) (b1 := W.heap.size) (b2 := w2.heap.size) (A := A) (B := A2) (c := c) (d := d2) (by assumption)).heads); (exact (TwoS.r1 (W := W) (r := ⟨place, time, bare, key, gone, value, heads⟩) (b1 := W.heap.size) (b2 := w2.heap.size) (A := A) (B := A2) (c := c) (d := d2) (by assumption)).heads); rintro e w5 ⟨rfl, hb5⟩)
        | ((with_reducible refine (live_c _).mono ?_); rintro e w5 ⟨rfl, hb5⟩))
    all_goals
      go_wp2
      go_ret
      exact ⟨rfl, TwoS.bel (W := W) (r := ⟨place, time, bare, key, gone, value, heads⟩) (b1 := W.heap.size) (b2 := w2.heap.size) (A := A) (B := A2) (c := c) (d := d2) (by assumption)⟩
  · rw [decide_eq_false hfew] at hf
    obtain ⟨place, time, bare, key, gone, value, heads⟩ := r
    unfold recV recC at *
    simp only at *
    go_enter Try.func3, Try.ntmps3
    go_wp2_with fail
    (with_reducible refine (hf _).mono ?_)
    rintro en w1 ⟨rfl, hb1⟩
    have B1 := Lib.hid (bjoin B0.out hb1 rfl rfl)
    clear hb1 X0 R0 B0 hf hfew
    go_wp2_with ((with_reducible refine (live_c _).mono ?_); rintro en w4 ⟨rfl, hb4⟩)
    go_ret
    exact ⟨rfl, bjoin B1.out hb4 rfl rfl⟩
theorem enc_le {r : Rec} (h : okRec r = true) : (encR r).size ≤ 30000 := by
  obtain ⟨⟨p0, p1, t0, t1⟩, ⟨k1, v1⟩, m1, ha⟩ := okRec_parts h
  have q1 := putL_len r.place
  have q2 := putL_len r.time
  have q3 := putL_len (marks r.bare r.gone)
  have q4 := txt_le r.key
  have q5 := txt_le r.value
  have q6 := putL_len (r.heads.length : Int)
  have q7 := headsL_le r.heads ha
  show (encL r).length ≤ _
  unfold encL
  simp only [List.length_append]
  omega
theorem enc_pos {r : Rec} (h : okRec r = true) : 0 < (encL r).length := by
  obtain ⟨⟨p0, p1, t0, t1⟩, _⟩ := okRec_parts h
  have q1 := putL_pos (n := r.place) (by omega) (by omega)
  unfold encL
  simp only [List.length_append]
  omega
theorem rest_mid (a b : ByteArray) (l : List UInt8) : Rest (a ++ ⟨l.toArray⟩ ++ b) a.size (l ++ b.data.toList) := by
  refine ⟨by omega, ?_, ?_⟩
  · rw [ByteArray.size_append, ByteArray.size_append]
    omega
  · simp only [Int.toNat_natCast, ByteArray.data_append, Array.toList_append, List.append_assoc]
    exact List.drop_left' rfl
set_option maxHeartbeats 4000000 in
set_option maxRecDepth 100000 in
theorem recordBack_walk (a0 : ByteArray) (r : Rec) (A : Option Addr) (c : Nat) (a2 : ByteArray) (W : World) (s0 : a0.size ≤ 140737488351232) (hR : RIn W r A c) (hS : RSmall r) (s2 : a2.size ≤ 140737488351232) :
    Calls Try.prog 6 #[.string a0, recV r A c, .string a2] W (Yes W) := by
  have hb0 : Below W.heap.size W (W.alloc (.cells (recC r A c) 24)) := (Below.refl _ _).alloc (Nat.le_refl _) _
  have hf := fun w => few_c r A c w hR.len
  have X0 := Lib.hid (Box.new W 24 (recC r A c))
  have R0 := Lib.hid (hR.below hb0)
  have B0 := Lib.hid hb0
  clear hb0 hR hS
  by_cases hfew : r.heads.length ≤ 20
  · rw [decide_eq_true hfew] at hf
    have hen := fun w hx => enc_c r A c w hx
    have HR := Lib.hid (fun (w w' : World) (B : Option Addr) (d : Nat) (hx : RIn w r B d) (hb : Below w.heap.size w w') => hx.below hb)
    cases hok : okRec r with
    | false =>
      rw [hok, show recE r = 1 by unfold recE; rw [hok]; rfl] at hen
      simp only [Bool.false_eq_true, if_false] at hen
      clear hok
      obtain ⟨place, time, bare, key, gone, value, heads⟩ := r
      unfold recV recC at *
      simp only at *
      go_enter Try.func6, Try.ntmps6
      go_wp2_with fail
      (with_reducible refine (hf _).mono ?_)
      rintro en w1 ⟨rfl, hb1⟩
      have X1 := Lib.hid (X0.out.later hb1)
      have R1 := Lib.hid (HR.out _ _ _ _ R0.out hb1)
      have B1 := Lib.hid (bjoin B0.out hb1 rfl rfl)
      clear hb1 X0 R0 B0 hf
      obtain ⟨y0, y1, y2, y3, y4, y5, y6⟩ := recL_at X1.out
      go_wp2_with fail
      (with_reducible refine (hen _ R1.out).mono ?_)
      rintro en w2 ⟨rfl, hb2⟩
      have B2 := Lib.hid (bjoin B1.out hb2 rfl rfl)
      clear hb2 y0 y1 y2 y3 y4 y5 y6 X1 R1 B1 hen
      go_wp2_with ((with_reducible refine (live_c _).mono ?_); rintro en w4 ⟨rfl, hb4⟩)
      go_ret
      exact ⟨rfl, bjoin B2.out hb4 rfl rfl⟩
    | true =>
      rw [hok, if_pos rfl, show recE r = 0 by unfold recE; rw [hok]; rfl] at hen
      have hz := enc_le hok
      have hdec : ∀ w, Calls Try.prog 18 #[.string (a0 ++ encR r ++ a2), .int .i64 (a0.size : Int)] w (GotDec w r ((a0.size : Int) + ((encR r).size : Int)) 0) := fun w => by
        have h := pdec_c (a0 ++ encR r ++ a2) a0.size w (by rw [ByteArray.size_append, ByteArray.size_append]; omega)
        have e : decR (a0 ++ encR r ++ a2) a0.size = (r, (a0.size : Int) + ((encR r).size : Int), 0) := dec_enc hok (rest_mid a0 a2 (encL r))
        rw [e] at h
        exact h
      have hsm := fun B D b d w hx hy => rsame_c r B D b d w (by omega) hx hy
      have add1 : ∀ w, (Op.stringOp .add a0 (encR r)).run Try.prog w = .ok (.string (a0 ++ encR r)) w := fun w => run_string_add_sum (w := w) _ _ (by omega)
      have add2 : ∀ w, (Op.stringOp .add (a0 ++ encR r) a2).run Try.prog w = .ok (.string (a0 ++ encR r ++ a2)) w := fun w => run_string_add_sum (w := w) _ _ (by rw [ByteArray.size_append]; omega)
      clear hok
      generalize encR r = X at *
      generalize a0 ++ X ++ a2 = Y at *
      obtain ⟨place, time, bare, key, gone, value, heads⟩ := r
      unfold recV recC at *
      simp only at *
      go_enter Try.func6, Try.ntmps6
      go_wp2_with fail
      (with_reducible refine (hf _).mono ?_)
      rintro en w1 ⟨rfl, hb1⟩
      have X1 := Lib.hid (X0.out.later hb1)
      have R1 := Lib.hid (HR.out _ _ _ _ R0.out hb1)
      have B1 := Lib.hid (bjoin B0.out hb1 rfl rfl)
      clear hb1 X0 R0 B0 hf
      obtain ⟨y0, y1, y2, y3, y4, y5, y6⟩ := recL_at X1.out
      go_wp2_with fail
      (with_reducible refine (hen _ R1.out).mono ?_)
      rintro en w2 ⟨rfl, hb2⟩
      have X2 := Lib.hid (X1.out.later hb2)
      have R2 := Lib.hid (HR.out _ _ _ _ R1.out hb2)
      have B2 := Lib.hid (bjoin B1.out hb2 rfl rfl)
      clear hb2 y0 y1 y2 y3 y4 y5 y6 X1 R1 B1 hen
      go_wp2_with fail
      (with_reducible refine (hdec _).mono ?_)
      rintro en w3 ⟨A3, d3, rfl, ho3, hb3⟩
      unfold recV recC
      simp only
      have H3 := Lib.hid (hin_alloc (hin_of_own ho3) (.cells #[.int .i64 place, .int .i64 time, .bool bare, .string key, .bool gone, .string value, .slice A3 heads.length d3] 24))
      have X3 := Lib.hid ((X2.out.later hb3).alloc (.cells #[.int .i64 place, .int .i64 time, .bool bare, .string key, .bool gone, .string value, .slice A3 heads.length d3] 24))
      have R3 := Lib.hid ((HR.out _ _ _ _ R2.out hb3).below ((Below.refl _ _).alloc (Nat.le_refl _) (.cells #[.int .i64 place, .int .i64 time, .bool bare, .string key, .bool gone, .string value, .slice A3 heads.length d3] 24)))
      have B3 := Lib.hid ((bjoin B2.out hb3 rfl rfl).alloc (Nat.le_trans B2.out.size hb3.size) (.cells #[.int .i64 place, .int .i64 time, .bool bare, .string key, .bool gone, .string value, .slice A3 heads.length d3] 24))
      clear ho3 hb3 X2 R2 B2 hdec
      obtain ⟨y0, y1, y2, y3, y4, y5, y6⟩ := recL_at X3.out
      go_wp2_with fail
      (with_reducible refine (hsm _ _ _ _ _ H3.out R3.out.heads).mono ?_)
      rintro en w5 ⟨rfl, hb5⟩
      have B5 := Lib.hid (bjoin B3.out hb5 rfl rfl)
      clear hb5 y0 y1 y2 y3 y4 y5 y6 B3 hsm
      go_wp2_with ((with_reducible refine (live_c _).mono ?_); rintro en w4 ⟨rfl, hb4⟩)
      go_ret
      exact ⟨rfl, bjoin B5.out hb4 rfl rfl⟩
  · rw [decide_eq_false hfew] at hf
    obtain ⟨place, time, bare, key, gone, value, heads⟩ := r
    unfold recV recC at *
    simp only at *
    go_enter Try.func6, Try.ntmps6
    go_wp2_with fail
    (with_reducible refine (hf _).mono ?_)
    rintro en w1 ⟨rfl, hb1⟩
    have B1 := Lib.hid (bjoin B0.out hb1 rfl rfl)
    clear hb1 X0 R0 B0 hf hfew
    go_wp2_with ((with_reducible refine (live_c _).mono ?_); rintro en w4 ⟨rfl, hb4⟩)
    go_ret
    exact ⟨rfl, bjoin B1.out hb4 rfl rfl⟩
end Go.Proofs.Ytogfakcnjoilfaa
