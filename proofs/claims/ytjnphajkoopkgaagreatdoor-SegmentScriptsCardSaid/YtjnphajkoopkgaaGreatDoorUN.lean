/- Merged texts. What each proves is told at its head. -/
import Derived.Laws.FloatArith
import Derived.Test.YtjnphajkoopkgaaGreatDoorMem
import Derived.Test.YtjnphajkoopkgaaGreatDoorNum
import Derived.Deep.RegionHeld3
import Derived.Maps.AppendAt
import Derived.BigQuiet
import Derived.Deep.QuietTactic
/- Whole numbers up to 2^40 as floats of 64 bits, there and back. No condition. -/
namespace Go.Proofs.YtjnphajkoopkgaaGreatDoor.Ix
set_option linter.unusedVariables false
/-- A whole number as a float of 64 bits. -/
def fl (n : Int) : Nat := floatOfInt .f64 n
theorem cut_even0 (neg : Bool) (m : Nat) : Ieee.Toward.even.cut neg m 0 = m := by
  unfold Ieee.Toward.cut
  simp [Nat.mod_one]
theorem near_fl (n : Nat) (h0 : n ≠ 0) (hk : n.log2 ≤ 40) (hm : n * 2 ^ (52 - n.log2) < 9007199254740992) : Ieee.double.nearest false n 0 = (n.log2 + 1022) * 4503599627370496 + n * 2 ^ (52 - n.log2) := by
  have hl : Ieee.double.leastPlace = -1074 := by decide
  have hf : Ieee.double.fractionBits = 52 := rfl
  have hb : Ieee.double.binade = 4503599627370496 := by decide
  have hi : Ieee.double.infRung = 9218868437227405312 := by decide
  unfold Ieee.Format.nearest
  rw [if_neg h0]
  simp only [hl, hf, hb, hi]
  generalize n.log2 = k at *
  have e1 : max ((0 : Int) + (k : Int) - ((52 : Nat) : Int)) (-1074) = (k : Int) - 52 := by omega
  rw [e1]
  have e2 : ((0 : Int) - ((k : Int) - 52)).toNat = 52 - k := by omega
  have e3 : ((k : Int) - 52 - 0).toNat = 0 := by omega
  have e4 : ((k : Int) - 52 - (-1074)).toNat = k + 1022 := by omega
  rw [e2, e3, e4, cut_even0, Nat.shiftLeft_eq]
  unfold Ieee.Format.word
  rw [if_neg (by decide)]
  exact Nat.min_eq_left (by omega)
theorem read_fl (k m : Nat) (hk : k ≤ 40) (h1 : 4503599627370496 ≤ m) (h2 : m < 9007199254740992) : Ieee.double.read ((k + 1022) * 4503599627370496 + m) = .number false m ((k : Int) - 52) := by
  have hl : Ieee.double.leastPlace = -1074 := by decide
  have hb : Ieee.double.binade = 4503599627370496 := by decide
  have hi : Ieee.double.infRung = 9218868437227405312 := by decide
  have hs : Ieee.double.signWeight = 9223372036854775808 := by decide
  unfold Ieee.Format.read
  simp only [hl, hb, hi, hs]
  have e1 : ((k + 1022) * 4503599627370496 + m) / 9223372036854775808 = 0 := Nat.div_eq_of_lt (by omega)
  have e2 : ((k + 1022) * 4503599627370496 + m) % 9223372036854775808 = (k + 1022) * 4503599627370496 + m := Nat.mod_eq_of_lt (by omega)
  rw [e1, e2, if_neg (by omega), if_pos (by omega)]
  have e3 : 4503599627370496 + ((k + 1022) * 4503599627370496 + m) % 4503599627370496 = m := by omega
  have e4 : ((k + 1022) * 4503599627370496 + m) / 4503599627370496 - 1 = k + 1022 := by omega
  have e5 : (-1074 : Int) + ((k + 1022 : Nat) : Int) = (k : Int) - 52 := by omega
  rw [e3, e4, e5]
  have e6 : (0 % 2 == 1) = false := rfl
  rw [e6]
theorem cut_zero (n d : Nat) (hd : d ≤ (n * 2 ^ d).log2 + 2) : Ieee.Toward.zero.cut false (n * 2 ^ d) d = n := by
  unfold Ieee.Toward.cut
  simp only [Nat.min_eq_left hd, Nat.shiftLeft_eq, Nat.one_mul]
  rw [Nat.mul_div_cancel _ (Nat.two_pow_pos d)]
  rfl
theorem fl_back_nat (n : Nat) (h : n ≤ 1099511627776) : floatToIntVal .f64 (floatOfInt .f64 (n : Int)) .i64 = some (n : Int) := by
  by_cases h0 : n = 0
  · subst h0; decide
  · have hk : n.log2 ≤ 40 := by
      have h2 : n < 2 ^ 41 := by omega
      have := (Nat.log2_lt h0).2 h2
      omega
    have hlo : 2 ^ n.log2 ≤ n := Nat.log2_self_le h0
    have hhi : n < 2 ^ (n.log2 + 1) := Nat.lt_log2_self
    have hp : 2 ^ n.log2 * 2 ^ (52 - n.log2) = 4503599627370496 := by
      rw [← Nat.pow_add, show n.log2 + (52 - n.log2) = 52 by omega]
    have hm1 : 4503599627370496 ≤ n * 2 ^ (52 - n.log2) := by rw [← hp]; exact Nat.mul_le_mul_right _ hlo
    have hm2 : n * 2 ^ (52 - n.log2) < 9007199254740992 := by
      have := Nat.mul_lt_mul_of_pos_right hhi (Nat.two_pow_pos (52 - n.log2))
      rw [Nat.pow_succ, Nat.mul_right_comm, hp] at this
      omega
    have e1 : floatOfInt .f64 (n : Int) = (n.log2 + 1022) * 4503599627370496 + n * 2 ^ (52 - n.log2) := by
      rw [← near_fl n h0 hk hm2]
      show Ieee.double.nearest (decide ((n : Int) < 0)) (n : Int).natAbs 0 = _
      rw [decide_eq_false (by omega), Int.natAbs_natCast]
    have hlg : 52 - n.log2 ≤ (n * 2 ^ (52 - n.log2)).log2 + 2 := by
      have h3 : n * 2 ^ (52 - n.log2) ≠ 0 := by omega
      have := (Nat.le_log2 h3 (k := 52)).2 (by omega)
      omega
    have e2 : (FloatKind.f64.decode (floatOfInt .f64 (n : Int))).toInt .zero = some (n : Int) := by
      rw [e1]
      show (Ieee.double.read _).toInt .zero = _
      rw [read_fl _ _ hk hm1 hm2]
      unfold Ieee.Datum.toInt Ieee.Datum.integral
      simp only
      have e3 : ((n.log2 : Int) - 52).toNat = 0 := by omega
      have e4 : (-((n.log2 : Int) - 52)).toNat = 52 - n.log2 := by omega
      rw [e3, e4, Nat.shiftLeft_zero, cut_zero _ _ hlg]
      simp [Ieee.signed]
    unfold floatToIntVal
    rw [e2]
    simp only
    rw [if_pos]
    have e5 : IntKind.i64.min = -9223372036854775808 := by decide
    have e6 : IntKind.i64.max = 9223372036854775807 := by decide
    rw [e5, e6]
    omega
theorem fl_back {n : Int} (h0 : 0 ≤ n) (h : n ≤ 1099511627776) : floatToIntVal .f64 (fl n) .i64 = some n := by
  obtain ⟨m, rfl⟩ : ∃ m : Nat, n = m := ⟨n.toNat, by omega⟩
  exact fl_back_nat m (by omega)
end Go.Proofs.YtjnphajkoopkgaaGreatDoor.Ix
/- index: whole numbers and places; what tells them apart; entries as told. No condition. -/
namespace Go.Proofs.YtjnphajkoopkgaaGreatDoor.Ix
open Go.RowKit
set_option linter.unusedVariables false
/-- May a number be? -/
def ixo (n : Int) : Bool := decide (0 ≤ n) && decide (n ≤ 1099511627776)
theorem ixo_of {n : Int} (h : ixo n = true) : 0 ≤ n ∧ n ≤ 1099511627776 := by
  unfold ixo at h
  simpa using h
theorem within_c (n : Int) (W : World) : Calls Tryz.prog 116 #[.int .i64 n] W (fun e w' => e = .returned (.bool (ixo n)) ∧ w' = W) := by
  unfold ixo
  by_cases h : 0 ≤ n
  · go_enter Tryz.func116, Tryz.ntmps116
    go_wp2
    go_ret
    refine ⟨?_, rfl⟩
    simp_all
  · have h' : decide (0 ≤ n) = false := decide_eq_false h
    go_enter Tryz.func116, Tryz.ntmps116
    go_wp2
    go_ret
    refine ⟨?_, rfl⟩
    simp
theorem join_c (a b : Int) (W : World) : Calls Tryz.prog 118 #[.int .i64 a, .int .i64 b] W (fun e w' => e = .returned (.complex .f64 (fl a) (fl b)) ∧ w' = W) := by
  have h1 : ∀ w, (convert 3 192 (.int .i64 a)).run Tryz.prog w = .ok (.float .f64 (fl a)) w := fun w => run_convert_int_float (P := Tryz.prog) w 3 192 .i64 .f64 a (by kernel_rfl) Tryz.underlying192
  have h2 : ∀ w, (convert 3 192 (.int .i64 b)).run Tryz.prog w = .ok (.float .f64 (fl b)) w := fun w => run_convert_int_float (P := Tryz.prog) w 3 192 .i64 .f64 b (by kernel_rfl) Tryz.underlying192
  go_enter Tryz.func118, Tryz.ntmps118
  go_wp2
  go_ret
  exact ⟨rfl, rfl⟩
theorem split_c (a b : Int) (W : World) (ha : ixo a = true) (hb : ixo b = true) : Calls Tryz.prog 132 #[.complex .f64 (fl a) (fl b)] W (fun e w' => e = .returned (.tuple #[.int .i64 a, .int .i64 b]) ∧ w' = W) := by
  have h1 := fun w => run_convert_float_int (P := Tryz.prog) w 192 3 .f64 .i64 (fl a) a (by kernel_rfl) Tryz.underlying3 (fl_back (ixo_of ha).1 (ixo_of ha).2)
  have h2 := fun w => run_convert_float_int (P := Tryz.prog) w 192 3 .f64 .i64 (fl b) b (by kernel_rfl) Tryz.underlying3 (fl_back (ixo_of hb).1 (ixo_of hb).2)
  clear ha hb
  go_enter Tryz.func132, Tryz.ntmps132
  go_wp2
  go_ret2
  exact ⟨rfl, rfl⟩
end Go.Proofs.YtjnphajkoopkgaaGreatDoor.Ix
/- index: an index in memory; an entry as told; New; whether a place rises, whether an entry is due. No condition. -/
namespace Go.Proofs.YtjnphajkoopkgaaGreatDoor.Ix
open Go.RowKit
set_option linter.unusedVariables false
/-- An entry: an offset, a place, a time. -/
abbrev En := Int × Int × Int
def okE (e : En) : Prop := ixo e.1 = true ∧ ixo e.2.1 = true
def entC (L : List En) : List Value := L.flatMap fun e => [.complex .f64 (fl e.1) (fl e.2.1), .int .i64 e.2.2]
theorem entC_snoc (L : List En) (e : En) : entC (L ++ [e]) = entC L ++ [.complex .f64 (fl e.1) (fl e.2.1), .int .i64 e.2.2] := by simp [entC]
theorem entC_at : ∀ {L : List En} {j : Nat} {e : En}, L[j]? = some e → (entC L)[j * 2]? = some (.complex .f64 (fl e.1) (fl e.2.1)) ∧ (entC L)[j * 2 + 1]? = some (.int .i64 e.2.2)
  | [], j, e, h => by cases h
  | x :: l, 0, e, h => by
    have : x = e := by simpa using h
    subst this
    exact ⟨rfl, rfl⟩
  | x :: l, j + 1, e, h => by
    have ih := entC_at (L := l) (j := j) (e := e) (by simpa using h)
    show ([_, _] ++ entC l)[(j + 1) * 2]? = _ ∧ ([_, _] ++ entC l)[(j + 1) * 2 + 1]? = _
    rw [List.getElem?_append_right (by simp; omega), List.getElem?_append_right (by simp; omega)]
    rw [show (j + 1) * 2 - [Value.complex .f64 (fl x.1) (fl x.2.1), Value.int .i64 x.2.2].length = j * 2 by simp; omega, show (j + 1) * 2 + 1 - [Value.complex .f64 (fl x.1) (fl x.2.1), Value.int .i64 x.2.2].length = j * 2 + 1 by simp; omega]
    exact ih
/-- An index, as the document has it. -/
structure Ix where
  every : Int
  L : List En
  lo : Int
  lp : Int
  lt : Int
/-- The program's index in memory. -/
structure IxIs (w : World) (base b : Nat) (x : Ix) (A : Option Addr) (c : Nat) : Prop where
  box : Box w b 114 #[.int .i64 x.every, .slice A x.L.length c, .complex .f64 (fl x.lo) (fl x.lp), .int .i64 x.lt]
  row : w.ownsRow base 153 2 (.slice A x.L.length c) x.L.length (entC x.L)
  lo : base ≤ b
  oks : ∀ e ∈ x.L, okE e
  okl : ixo x.lo = true ∧ ixo x.lp = true
theorem IxIs.later {w w' : World} {base b c : Nat} {x : Ix} {A : Option Addr} (h : IxIs w base b x A c) (hb : Below w.heap.size w w') : IxIs w' base b x A c := ⟨h.box.later hb, own_below h.row hb, h.lo, h.oks, h.okl⟩
theorem IxIs.cells {w : World} {base b c : Nat} {x : Ix} {A : Option Addr} (h : IxIs w base b x A c) : w.cell? ⟨b, 0, none⟩ = some (.int .i64 x.every) ∧ w.cell? ⟨b, 1, none⟩ = some (.slice A x.L.length c) ∧ w.cell? ⟨b, 2, none⟩ = some (.complex .f64 (fl x.lo) (fl x.lp)) ∧ w.cell? ⟨b, 3, none⟩ = some (.int .i64 x.lt) ∧
    w.frozen? ⟨b, 0, none⟩ = false ∧ w.frozen? ⟨b, 1, none⟩ = false ∧ w.frozen? ⟨b, 2, none⟩ = false ∧ w.frozen? ⟨b, 3, none⟩ = false :=
  ⟨by rw [h.box.cell]; rfl, by rw [h.box.cell]; rfl, by rw [h.box.cell]; rfl, by rw [h.box.cell]; rfl, h.box.frozen 0, h.box.frozen 1, h.box.frozen 2, h.box.frozen 3⟩
theorem IxIs.entry {w : World} {base b c : Nat} {x : Ix} {A : Option Addr} (h : IxIs w base b x A c) {j : Nat} {e : En} (hj : x.L[j]? = some e) :
    ∃ g, A = some ⟨g, 0, none⟩ ∧ w.cell? ⟨g, j * 2, none⟩ = some (.complex .f64 (fl e.1) (fl e.2.1)) ∧ w.cell? ⟨g, j * 2 + 1, none⟩ = some (.int .i64 e.2.2) ∧ g < w.heap.size ∧ x.L.length ≤ c := by
  have hl : j < x.L.length := (List.getElem?_eq_some_iff.1 hj).1
  have hrow := h.row
  rcases hrow.2 with ⟨hv, h0⟩ | ⟨g, cap, cur, hv, hg, hh, h4, h5, h6, h7⟩
  · omega
  · injection hv with e1 e2 e3
    subst e1 e3
    obtain ⟨k1, k2⟩ := entC_at hj
    exact ⟨g, rfl, (hrow.cellAt (j * 2) (by omega)).trans k1, (hrow.cellAt (j * 2 + 1) (by omega)).trans k2, lt_of_there hh, h4⟩
theorem told_result {w : World} (g : Nat) {v0 v1 v2 : Value} (h : Box w g 128 #[v0, v1, v2]) (tmps : Array Value) (ht : (tmps[2]?).getD undef = .pointer (some ⟨g, 0, none⟩)) :
    (results Tryz.f102 tmps).run Tryz.prog w = .ok (.agg #[v0, v1, v2]) w := by
  have c0 := (h.cell 0).trans (show _ = some v0 from rfl)
  have c1 := (h.cell 1).trans (show _ = some v1 from rfl)
  have c2 := (h.cell 2).trans (show _ = some v2 from rfl)
  simp [results, Tryz.results102, go_sem, ht, c0, c1, c2]
set_option maxHeartbeats 4000000 in
set_option maxRecDepth 100000 in
theorem told_c (o p t : Int) (W : World) (ho : ixo o = true) (hp : ixo p = true) :
    Calls Tryz.prog 102 #[.agg #[.complex .f64 (fl o) (fl p), .int .i64 t]] W (Good W (.agg #[.int .i64 o, .int .i64 p, .int .i64 t])) := by
  have cs := fun w => split_c o p w ho hp
  clear ho hp
  generalize fl o = zo at *
  generalize fl p = zp at *
  obtain ⟨W0, hW0⟩ : ∃ w, (W.alloc (.cells #[.complex .f64 zo zp, .int .i64 t] 153)).alloc (.cells #[.int .i64 0, .int .i64 0, .int .i64 0] 128) = w := ⟨_, rfl⟩
  have HA : Hid (Below W.heap.size W W0 ∧ Box W0 W.heap.size 153 #[.complex .f64 zo zp, .int .i64 t] ∧ Box W0 (W.heap.size + 1) 128 #[.int .i64 0, .int .i64 0, .int .i64 0]) := Lib.hid (by
    rw [← hW0]
    refine ⟨((Below.refl _ W).alloc (Nat.le_refl _) _).alloc (by simp) _, (Box.new W _ _).alloc _, ?_⟩
    have := Box.new (W.alloc (.cells #[.complex .f64 zo zp, .int .i64 t] 153)) 128 #[.int .i64 0, .int .i64 0, .int .i64 0]
    rwa [World.size_alloc] at this)
  have y0 := (HA.out.2.1.cell 0).trans (show _ = some (Value.complex .f64 zo zp) from rfl)
  have y1 := (HA.out.2.1.cell 1).trans (show _ = some (Value.int .i64 t) from rfl)
  have z0 := (HA.out.2.2.cell 0).trans (show _ = some (Value.int .i64 0) from rfl)
  have z1 := (HA.out.2.2.cell 1).trans (show _ = some (Value.int .i64 0) from rfl)
  have z2 := (HA.out.2.2.cell 2).trans (show _ = some (Value.int .i64 0) from rfl)
  have f0 := HA.out.2.2.frozen 0
  have f1 := HA.out.2.2.frozen 1
  have f2 := HA.out.2.2.frozen 2
  have HB : Hid (Box (((W0.setCell ⟨W.heap.size + 1, 0, none⟩ (.int .i64 o)).setCell ⟨W.heap.size + 1, 1, none⟩ (.int .i64 p)).setCell ⟨W.heap.size + 1, 2, none⟩ (.int .i64 t)) (W.heap.size + 1) 128 #[.int .i64 o, .int .i64 p, .int .i64 t]) := Lib.hid (((HA.out.2.2.set 0 _).set 1 _).set 2 _)
  go_enter Tryz.func102, Tryz.ntmps102
  go_wp2_with fail
  (with_reducible refine (cs _).mono ?_)
  rintro e w1 ⟨rfl, rfl⟩
  go_wp2_with fail
  refine bodyPost_ret (v := .agg #[.int .i64 o, .int .i64 p, .int .i64 t]) ?_ rfl ?_
  · exact told_result (W.heap.size + 1) HB.out _ rfl
  · exact ⟨rfl, ((HA.out.1.setCell (p := ⟨W.heap.size + 1, 0, none⟩) (Nat.le_succ _) _).setCell (p := ⟨W.heap.size + 1, 1, none⟩) (Nat.le_succ _) _).setCell (p := ⟨W.heap.size + 1, 2, none⟩) (Nat.le_succ _) _⟩
/-- What New hands back. -/
def GotNew (W : World) (every : Int) (en : Ending) (w' : World) : Prop :=
  (¬ (1 ≤ every ∧ every ≤ 1000000) → en = .returned (.tuple #[.pointer none, .int .i64 1]) ∧ w' = W) ∧
  (1 ≤ every ∧ every ≤ 1000000 → en = .returned (.tuple #[.pointer (some ⟨W.heap.size, 0, none⟩), .int .i64 0]) ∧ IxIs w' W.heap.size W.heap.size ⟨every, [], 0, 0, 0⟩ none 0 ∧ Below W.heap.size W w')
theorem fl_zero : fl 0 = 0 := by decide
set_option maxHeartbeats 4000000 in
set_option maxRecDepth 100000 in
theorem new_c (every : Int) (W : World) : Calls Tryz.prog 27 #[.int .i64 every] W (GotNew W every) := by
  by_cases h1 : every < 1
  · go_enter Tryz.func27, Tryz.ntmps27
    go_wp2
    go_ret2
    exact ⟨fun _ => ⟨rfl, rfl⟩, fun h => by omega⟩
  · by_cases h2 : 1000000 < every
    · go_enter Tryz.func27, Tryz.ntmps27
      go_wp2
      go_ret2
      exact ⟨fun _ => ⟨rfl, rfl⟩, fun h => by omega⟩
    · have HX : Hid (IxIs (W.alloc (.cells #[.int .i64 every, .slice none 0 0, .complex .f64 0 0, .int .i64 0] 114)) W.heap.size W.heap.size ⟨every, [], 0, 0, 0⟩ none 0) := Lib.hid ⟨by show Box _ _ _ #[.int .i64 every, .slice none 0 0, .complex .f64 (fl 0) (fl 0), .int .i64 0]; rw [fl_zero]; exact Box.new W _ _, World.ownsRow_nil _ _ _ _, Nat.le_refl _, (fun e he => by cases he), rfl, rfl⟩
      go_enter Tryz.func27, Tryz.ntmps27
      go_wp2
      go_ret2
      exact ⟨fun h => absurd (by omega) h, fun _ => ⟨rfl, HX.out, (Below.refl _ W).alloc (Nat.le_refl _) _⟩⟩
end Go.Proofs.YtjnphajkoopkgaaGreatDoor.Ix
/- index: what only reads: rises, due, the tests of Find and Seek. No condition. -/
namespace Go.Proofs.YtjnphajkoopkgaaGreatDoor.Ix
open Go.RowKit
set_option linter.unusedVariables false
def risesB (x : Ix) (o p : Int) : Bool := decide (x.L.length = 0) || (decide (x.lo < o) && decide (x.lp < p))
set_option maxHeartbeats 4000000 in
set_option maxRecDepth 100000 in
theorem rises_c (x : Ix) (A : Option Addr) (c base b : Nat) (o p : Int) (W : World) (h : IxIs W base b x A c) :
    Calls Tryz.prog 117 #[.pointer (some ⟨b, 0, none⟩), .int .i64 o, .int .i64 p] W (fun e w' => e = .returned (.bool (risesB x o p)) ∧ w' = W) := by
  obtain ⟨c0, c1, c2, c3, f0, f1, f2, f3⟩ := h.cells
  have cs := fun w => split_c x.lo x.lp w h.okl.1 h.okl.2
  unfold risesB
  obtain ⟨every, L, lo, lp, lt⟩ := x
  simp only at *
  clear h
  generalize fl lo = zo at *
  generalize fl lp = zp at *
  by_cases h0 : L.length = 0
  · have h0' : ((L.length : Int) == 0) = true := by rw [beq_iff_eq]; omega
    have HL := Lib.hid h0
    rw [h0] at c1
    clear h0 h0'
    go_enter Tryz.func117, Tryz.ntmps117
    go_wp2
    go_ret
    refine ⟨?_, rfl⟩
    rw [HL.out]
    rfl
  · have h0' : ((L.length : Int) == 0) = false := by rw [beq_eq_false_iff_ne]; omega
    have HL := Lib.hid h0
    by_cases h1 : lo < o
    · have H1 := Lib.hid (decide_eq_true h1)
      go_enter Tryz.func117, Tryz.ntmps117
      go_wp2_with fail
      (with_reducible refine (cs _).mono ?_)
      rintro e w1 ⟨rfl, rfl⟩
      go_wp2_with fail
      go_ret
      refine ⟨?_, rfl⟩
      rw [decide_eq_false HL.out, H1.out]
      simp
    · have h1' : decide (lo < o) = false := decide_eq_false h1
      have H1 := Lib.hid h1'
      go_enter Tryz.func117, Tryz.ntmps117
      go_wp2_with fail
      (with_reducible refine (cs _).mono ?_)
      rintro e w1 ⟨rfl, rfl⟩
      go_wp2_with fail
      go_ret
      refine ⟨?_, rfl⟩
      rw [decide_eq_false HL.out, H1.out]
      simp
/-- The place of the last entry. -/
def lastP (L : List En) : Int := (L.getLast?.getD (0, 0, 0)).2.1
def dueB (x : Ix) (p : Int) : Bool := decide (x.L.length = 0) || decide (x.every ≤ p - lastP x.L)
theorem last_at {L : List En} (h : L.length ≠ 0) : ∃ e, L[L.length - 1]? = some e ∧ lastP L = e.2.1 ∧ e ∈ L := by
  have hl : L.length - 1 < L.length := by omega
  refine ⟨L[L.length - 1], List.getElem?_eq_getElem hl, ?_, List.getElem_mem hl⟩
  unfold lastP
  rw [List.getLast?_eq_getElem?, List.getElem?_eq_getElem hl]
  rfl
theorem field_1 (o q t : Int) (w : World) : (Instr.field 128 (.agg #[.int .i64 o, .int .i64 q, .int .i64 t]) 1).run Tryz.prog w = .ok (.int .i64 q) w := by kernel_rfl
/-- What stays while entries are told. -/
def DueS (W : World) (b g j : Nat) (ev : Int) (z1 z2 : Nat) (t : Int) (A : Option Addr) (n c : Nat) (w : World) : Prop :=
  w.cell? ⟨b, 0, none⟩ = some (.int .i64 ev) ∧ w.cell? ⟨b, 1, none⟩ = some (.slice A n c) ∧ w.cell? ⟨g, j * 2, none⟩ = some (.complex .f64 z1 z2) ∧ w.cell? ⟨g, j * 2 + 1, none⟩ = some (.int .i64 t) ∧ b < w.heap.size ∧ g < w.heap.size ∧ Below W.heap.size W w
theorem DueS.later {W w w' : World} {b g j : Nat} {ev : Int} {z1 z2 : Nat} {t : Int} {A : Option Addr} {n c : Nat} (h : DueS W b g j ev z1 z2 t A n c w) (hb : Below w.heap.size w w') : DueS W b g j ev z1 z2 t A n c w' := by
  obtain ⟨h1, h2, h3, h4, h5, h6, h7⟩ := h
  exact ⟨(hb.cell (p := ⟨b, 0, none⟩) h5).trans h1, (hb.cell (p := ⟨b, 1, none⟩) h5).trans h2, (hb.cell (p := ⟨g, j * 2, none⟩) h6).trans h3, (hb.cell (p := ⟨g, j * 2 + 1, none⟩) h6).trans h4, Nat.lt_of_lt_of_le h5 hb.size, Nat.lt_of_lt_of_le h6 hb.size, h7.trans (hb.mono h7.size)⟩
theorem DueS.bel {W w : World} {b g j : Nat} {ev : Int} {z1 z2 : Nat} {t : Int} {A : Option Addr} {n c : Nat} (h : DueS W b g j ev z1 z2 t A n c w) : Below W.heap.size W w := h.2.2.2.2.2.2
set_option maxHeartbeats 4000000 in
set_option maxRecDepth 100000 in
theorem due_c (x : Ix) (A : Option Addr) (c base b : Nat) (p : Int) (W : World) (h : IxIs W base b x A c) (hp : ixo p = true) (hn : x.L.length ≤ 1000000) :
    Calls Tryz.prog 119 #[.pointer (some ⟨b, 0, none⟩), .int .i64 p] W (Good W (.bool (dueB x p))) := by
  obtain ⟨c0, c1, c2, c3, f0, f1, f2, f3⟩ := h.cells
  unfold dueB
  by_cases h0 : x.L.length = 0
  · have h0' : decide ((x.L.length : Int) = 0) = true := decide_eq_true (by omega)
    have HL := Lib.hid h0
    rw [h0] at c1
    clear h0 h0' h
    go_enter Tryz.func119, Tryz.ntmps119
    go_wp2_with fail
    go_quiet (fail)
    go_wp2
    go_ret
    refine ⟨?_, ⟨rfl, rfl, rfl, Nat.le_refl _, fun _ _ => rfl⟩⟩
    rw [decide_eq_true HL.out]
    rfl
  · obtain ⟨e, he, hle, hem⟩ := last_at h0
    obtain ⟨g, rfl, q0, q1, hg, hcap⟩ := h.entry he
    have hoke := h.oks e hem
    obtain ⟨o, q, t⟩ := e
    have hp2 := ixo_of hp
    have hq2 := ixo_of hoke.2
    simp only at hle hp2 hq2 q0 q1
    rw [hle, decide_eq_false h0, Bool.false_or]
    have cs := fun w => told_c o q t w hoke.1 hoke.2
    have hS : DueS W b g (x.L.length - 1) x.every (fl o) (fl q) t (some ⟨g, 0, none⟩) x.L.length c W := ⟨c0, c1, q0, q1, h.box.lt, hg, Below.refl _ _⟩
    obtain ⟨every, L, lo, lp, lt⟩ := x
    simp only at *
    clear h hle hem he hoke
    generalize fl o = zo at *
    generalize fl q = zq at *
    have h0' : ((L.length : Int) == 0) = false := by rw [beq_eq_false_iff_ne]; omega
    have h0d : decide ((L.length : Int) = 0) = false := decide_eq_false (by omega)
    have h0e : decide (L.length = 0) = false := decide_eq_false h0
    have n1 : (L.length : Int) - 1 = ((L.length - 1 : Nat) : Int) := by omega
    generalize hj : L.length - 1 = j at *
    have hjl : j < L.length := by omega
    have j0 : (0 : Int) ≤ (j : Int) := by omega
    have j1 : (j : Int) < (L.length : Int) := by omega
    have g1 : IntKind.i64.wrap ((L.length : Int) - 1) = (j : Int) := by rw [IntWalk.i64_in _ (by omega)]; exact n1
    have g3 : IntKind.i64.wrap (j : Int) = (j : Int) := IntWalk.i64_in _ (by omega)
    clear hj
    have g2 : IntKind.i64.wrap (p - q) = p - q := IntWalk.i64_in _ (by omega)
    go_enter Tryz.func119, Tryz.ntmps119
    go_wp2_with fail
    unfold DueS at hS
    have hfd := field_1 o q t
    go_region_held3 (fun w => w.cell? ⟨b, 0, none⟩ = some (.int .i64 every) ∧ w.cell? ⟨b, 1, none⟩ = some (.slice (some ⟨g, 0, none⟩) L.length c) ∧ w.cell? ⟨g, j * 2, none⟩ = some (.complex .f64 zo zq) ∧ w.cell? ⟨g, j * 2 + 1, none⟩ = some (.int .i64 t) ∧ b < w.heap.size ∧ g < w.heap.size ∧ Below W.heap.size W w)
      (first | exact DueS.later hS ((Below.refl _ _).drew) | exact DueS.later (W := W) (b := b) (g := g) (j := j) (by assumption) (by assumption))
      (first | ((with_reducible refine (cs _).mono ?_); rintro e w1 ⟨rfl, hb1⟩))
    all_goals
      go_wp2
      go_ret
      exact ⟨rfl, DueS.bel (W := W) (b := b) (g := g) (j := j) (ev := every) (z1 := zo) (z2 := zq) (t := t) (A := some ⟨g, 0, none⟩) (n := L.length) (c := c) (by assumption)⟩
theorem find1_c (o p t off : Int) (P : Nat) (W : World) (hP : W.cell? ⟨P, 0, none⟩ = some (.int .i64 off)) (hl : P < W.heap.size) :
    Calls Tryz.prog 87 #[.agg #[.int .i64 o, .int .i64 p, .int .i64 t], .pointer (some ⟨P, 0, none⟩)] W (Good W (.bool (decide (off < o)))) := by
  have hP2 : (W.alloc (.cells #[.int .i64 o, .int .i64 p, .int .i64 t] 128)).cell? ⟨P, 0, none⟩ = some (.int .i64 off) := (((Below.refl _ W).alloc (Nat.le_refl _) _).cell (p := ⟨P, 0, none⟩) hl).trans hP
  clear hP
  go_enter Tryz.func87, Tryz.ntmps87
  go_wp2
  go_ret
  exact ⟨rfl, (Below.refl _ W).alloc (Nat.le_refl _) _⟩
theorem seek1_c (o p t off : Int) (P : Nat) (W : World) (hP : W.cell? ⟨P, 0, none⟩ = some (.int .i64 off)) (hl : P < W.heap.size) :
    Calls Tryz.prog 77 #[.agg #[.int .i64 o, .int .i64 p, .int .i64 t], .pointer (some ⟨P, 0, none⟩)] W (Good W (.bool (decide (off ≤ t)))) := by
  have hP2 : (W.alloc (.cells #[.int .i64 o, .int .i64 p, .int .i64 t] 128)).cell? ⟨P, 0, none⟩ = some (.int .i64 off) := (((Below.refl _ W).alloc (Nat.le_refl _) _).cell (p := ⟨P, 0, none⟩) hl).trans hP
  clear hP
  go_enter Tryz.func77, Tryz.ntmps77
  go_wp2
  go_ret
  exact ⟨rfl, (Below.refl _ W).alloc (Nat.le_refl _) _⟩
/-- What the test of an entry reads. -/
def AhS (W : World) (P P1 P2 b g i : Nat) (off : Int) (F : Value) (z1 z2 : Nat) (t : Int) (A : Option Addr) (n c : Nat) (w : World) : Prop :=
  w.cell? ⟨P1, 0, none⟩ = some F ∧ w.cell? ⟨P2, 0, none⟩ = some (.pointer (some ⟨b, 0, none⟩)) ∧ w.cell? ⟨b, 1, none⟩ = some (.slice A n c) ∧ w.cell? ⟨g, i * 2, none⟩ = some (.complex .f64 z1 z2) ∧ w.cell? ⟨g, i * 2 + 1, none⟩ = some (.int .i64 t) ∧ w.cell? ⟨P, 0, none⟩ = some (.int .i64 off) ∧
    P < w.heap.size ∧ P1 < w.heap.size ∧ P2 < w.heap.size ∧ b < w.heap.size ∧ g < w.heap.size ∧ Below W.heap.size W w
section
variable {W w w' : World} {P P1 P2 b g i : Nat} {off : Int} {F : Value} {z1 z2 : Nat} {t : Int} {A : Option Addr} {n c : Nat}
theorem AhS.later (h : AhS W P P1 P2 b g i off F z1 z2 t A n c w) (hb : Below w.heap.size w w') : AhS W P P1 P2 b g i off F z1 z2 t A n c w' := by
  obtain ⟨h1, h2, h3, h4, h5, h6, k1, k2, k3, k4, k5, h7⟩ := h
  exact ⟨(hb.cell (p := ⟨P1, 0, none⟩) k2).trans h1, (hb.cell (p := ⟨P2, 0, none⟩) k3).trans h2, (hb.cell (p := ⟨b, 1, none⟩) k4).trans h3, (hb.cell (p := ⟨g, i * 2, none⟩) k5).trans h4, (hb.cell (p := ⟨g, i * 2 + 1, none⟩) k5).trans h5, (hb.cell (p := ⟨P, 0, none⟩) k1).trans h6,
    Nat.lt_of_lt_of_le k1 hb.size, Nat.lt_of_lt_of_le k2 hb.size, Nat.lt_of_lt_of_le k3 hb.size, Nat.lt_of_lt_of_le k4 hb.size, Nat.lt_of_lt_of_le k5 hb.size, h7.trans (hb.mono h7.size)⟩
theorem AhS.bel (h : AhS W P P1 P2 b g i off F z1 z2 t A n c w) : Below W.heap.size W w := h.2.2.2.2.2.2.2.2.2.2.2
theorem AhS.cp (h : AhS W P P1 P2 b g i off F z1 z2 t A n c w) : w.cell? ⟨P, 0, none⟩ = some (.int .i64 off) := h.2.2.2.2.2.1
theorem AhS.lp (h : AhS W P P1 P2 b g i off F z1 z2 t A n c w) : P < w.heap.size := h.2.2.2.2.2.2.1
end
set_option maxHeartbeats 4000000 in
set_option maxRecDepth 100000 in
theorem findA_c (x : Ix) (A : Option Addr) (c base b P P1 P2 i : Nat) (off : Int) (e : En) (W : World) (h : IxIs W base b x A c) (hP : W.cell? ⟨P, 0, none⟩ = some (.int .i64 off)) (hl : P < W.heap.size)
    (hP1 : W.cell? ⟨P1, 0, none⟩ = some (.func (.func 87) #[] #[.pointer (some ⟨P, 0, none⟩)])) (hl1 : P1 < W.heap.size) (hP2 : W.cell? ⟨P2, 0, none⟩ = some (.pointer (some ⟨b, 0, none⟩))) (hl2 : P2 < W.heap.size) (he : x.L[i]? = some e) (hn : x.L.length ≤ 1000000) :
    Calls Tryz.prog 101 #[.int .i64 i, .pointer (some ⟨P1, 0, none⟩), .pointer (some ⟨P2, 0, none⟩)] W (Good W (.bool (decide (off < e.1)))) := by
  obtain ⟨c0, c1, c2, c3, f0, f1, f2, f3⟩ := h.cells
  obtain ⟨g, rfl, q0, q1, hg, hcap⟩ := h.entry he
  have hil := (List.getElem?_eq_some_iff.1 he).1
  have hoke := h.oks e (List.mem_of_getElem? he)
  obtain ⟨o, q, t⟩ := e
  simp only at q0 q1
  have cs := fun w => told_c o q t w hoke.1 hoke.2
  have cf := fun w h1 h2 => find1_c o q t off P w h1 h2
  have hS : AhS W P P1 P2 b g i off (.func (.func 87) #[] #[.pointer (some ⟨P, 0, none⟩)]) (fl o) (fl q) t (some ⟨g, 0, none⟩) x.L.length c W := ⟨hP1, hP2, c1, q0, q1, hP, hl, hl1, hl2, h.box.lt, hg, Below.refl _ _⟩
  obtain ⟨every, L, lo, lp, lt⟩ := x
  simp only at *
  clear h he hoke c0 c2 c3 f0 f1 f2 f3 hP hP1 hP2 c1 q0 q1
  generalize fl o = zo at *
  generalize fl q = zq at *
  have j0 : (0 : Int) ≤ (i : Int) := by omega
  have j1 : (i : Int) < (L.length : Int) := by omega
  go_enter Tryz.func101, Tryz.ntmps101
  go_wp2_with fail
  unfold AhS at hS
  go_region_held3 (fun w => w.cell? ⟨P1, 0, none⟩ = some (.func (.func 87) #[] #[.pointer (some ⟨P, 0, none⟩)]) ∧ w.cell? ⟨P2, 0, none⟩ = some (.pointer (some ⟨b, 0, none⟩)) ∧ w.cell? ⟨b, 1, none⟩ = some (.slice (some ⟨g, 0, none⟩) L.length c) ∧ w.cell? ⟨g, i * 2, none⟩ = some (.complex .f64 zo zq) ∧ w.cell? ⟨g, i * 2 + 1, none⟩ = some (.int .i64 t) ∧ w.cell? ⟨P, 0, none⟩ = some (.int .i64 off) ∧ P < w.heap.size ∧ P1 < w.heap.size ∧ P2 < w.heap.size ∧ b < w.heap.size ∧ g < w.heap.size ∧ Below W.heap.size W w)
    (first | exact AhS.later hS ((Below.refl _ _).drew) | exact AhS.later (W := W) (P := P) (P1 := P1) (P2 := P2) (b := b) (g := g) (i := i) (by assumption) (by assumption))
    (first | ((with_reducible refine (cs _).mono ?_); rintro e w1 ⟨rfl, hb1⟩) | ((with_reducible refine (cf _ ?_ ?_).mono ?_); (exact AhS.cp (W := W) (P := P) (P1 := P1) (P2 := P2) (b := b) (g := g) (i := i) (by assumption)); (exact AhS.lp (W := W) (P := P) (P1 := P1) (P2 := P2) (b := b) (g := g) (i := i) (by assumption)); rintro e w1 ⟨rfl, hb1⟩))
  all_goals
    go_wp2
    go_ret
    exact ⟨rfl, AhS.bel (W := W) (P := P) (P1 := P1) (P2 := P2) (b := b) (g := g) (i := i) (by assumption)⟩
set_option maxHeartbeats 4000000 in
set_option maxRecDepth 100000 in
theorem seekA_c (x : Ix) (A : Option Addr) (c base b P P1 P2 i : Nat) (off : Int) (e : En) (W : World) (h : IxIs W base b x A c) (hP : W.cell? ⟨P, 0, none⟩ = some (.int .i64 off)) (hl : P < W.heap.size)
    (hP1 : W.cell? ⟨P1, 0, none⟩ = some (.func (.func 77) #[] #[.pointer (some ⟨P, 0, none⟩)])) (hl1 : P1 < W.heap.size) (hP2 : W.cell? ⟨P2, 0, none⟩ = some (.pointer (some ⟨b, 0, none⟩))) (hl2 : P2 < W.heap.size) (he : x.L[i]? = some e) (hn : x.L.length ≤ 1000000) :
    Calls Tryz.prog 101 #[.int .i64 i, .pointer (some ⟨P1, 0, none⟩), .pointer (some ⟨P2, 0, none⟩)] W (Good W (.bool (decide (off ≤ e.2.2)))) := by
  obtain ⟨c0, c1, c2, c3, f0, f1, f2, f3⟩ := h.cells
  obtain ⟨g, rfl, q0, q1, hg, hcap⟩ := h.entry he
  have hil := (List.getElem?_eq_some_iff.1 he).1
  have hoke := h.oks e (List.mem_of_getElem? he)
  obtain ⟨o, q, t⟩ := e
  simp only at q0 q1
  have cs := fun w => told_c o q t w hoke.1 hoke.2
  have cf := fun w h1 h2 => seek1_c o q t off P w h1 h2
  have hS : AhS W P P1 P2 b g i off (.func (.func 77) #[] #[.pointer (some ⟨P, 0, none⟩)]) (fl o) (fl q) t (some ⟨g, 0, none⟩) x.L.length c W := ⟨hP1, hP2, c1, q0, q1, hP, hl, hl1, hl2, h.box.lt, hg, Below.refl _ _⟩
  obtain ⟨every, L, lo, lp, lt⟩ := x
  simp only at *
  clear h he hoke c0 c2 c3 f0 f1 f2 f3 hP hP1 hP2 c1 q0 q1
  generalize fl o = zo at *
  generalize fl q = zq at *
  have j0 : (0 : Int) ≤ (i : Int) := by omega
  have j1 : (i : Int) < (L.length : Int) := by omega
  go_enter Tryz.func101, Tryz.ntmps101
  go_wp2_with fail
  unfold AhS at hS
  go_region_held3 (fun w => w.cell? ⟨P1, 0, none⟩ = some (.func (.func 77) #[] #[.pointer (some ⟨P, 0, none⟩)]) ∧ w.cell? ⟨P2, 0, none⟩ = some (.pointer (some ⟨b, 0, none⟩)) ∧ w.cell? ⟨b, 1, none⟩ = some (.slice (some ⟨g, 0, none⟩) L.length c) ∧ w.cell? ⟨g, i * 2, none⟩ = some (.complex .f64 zo zq) ∧ w.cell? ⟨g, i * 2 + 1, none⟩ = some (.int .i64 t) ∧ w.cell? ⟨P, 0, none⟩ = some (.int .i64 off) ∧ P < w.heap.size ∧ P1 < w.heap.size ∧ P2 < w.heap.size ∧ b < w.heap.size ∧ g < w.heap.size ∧ Below W.heap.size W w)
    (first | exact AhS.later hS ((Below.refl _ _).drew) | exact AhS.later (W := W) (P := P) (P1 := P1) (P2 := P2) (b := b) (g := g) (i := i) (by assumption) (by assumption))
    (first | ((with_reducible refine (cs _).mono ?_); rintro e w1 ⟨rfl, hb1⟩) | ((with_reducible refine (cf _ ?_ ?_).mono ?_); (exact AhS.cp (W := W) (P := P) (P1 := P1) (P2 := P2) (b := b) (g := g) (i := i) (by assumption)); (exact AhS.lp (W := W) (P := P) (P1 := P1) (P2 := P2) (b := b) (g := g) (i := i) (by assumption)); rintro e w1 ⟨rfl, hb1⟩))
  all_goals
    go_wp2
    go_ret
    exact ⟨rfl, AhS.bel (W := W) (P := P) (P1 := P1) (P2 := P2) (b := b) (g := g) (i := i) (by assumption)⟩
end Go.Proofs.YtjnphajkoopkgaaGreatDoor.Ix
/- index: sort.Search over a test of entries; Find and Seek. No condition. -/
namespace Go.Proofs.YtjnphajkoopkgaaGreatDoor.Ix
open Go.RowKit
set_option linter.unusedVariables false
def GotSearch (W : World) (n : Nat) (Q : Nat → Bool) (en : Ending) (w' : World) : Prop :=
  ∃ r : Nat, en = .returned (.int .i64 r) ∧ r ≤ n ∧ (∀ k, k < r → Q k = false) ∧ (∀ k, r ≤ k → k < n → Q k = true) ∧ Below W.heap.size W w'
structure SrS (W : World) (n : Nat) (Q : Nat → Bool) (a b : Nat) (w : World) : Prop where
  ab : a ≤ b
  bn : b ≤ n
  lo : ∀ k, k < a → Q k = false
  hi : ∀ k, b ≤ k → k < n → Q k = true
  bel : Below W.heap.size W w
theorem SrS.up {W w w' : World} {n a b m : Nat} {Q : Nat → Bool} (h : SrS W n Q a b w) (hb : Below w.heap.size w w') (hm : a ≤ m) (hm2 : m < b) (hmono : ∀ i j, i ≤ j → j < n → Q i = true → Q j = true) (hq : Q m = false) : SrS W n Q (m + 1) b w' := by
  refine ⟨hm2, h.bn, fun k hk => ?_, h.hi, h.bel.trans (hb.mono h.bel.size)⟩
  cases hk2 : Q k with
  | false => rfl
  | true =>
    have := hmono k m (by omega) (by have := h.bn; omega) hk2
    rw [hq] at this
    cases this
theorem SrS.down {W w w' : World} {n a b m : Nat} {Q : Nat → Bool} (h : SrS W n Q a b w) (hb : Below w.heap.size w w') (hm : a ≤ m) (hm2 : m < b) (hmono : ∀ i j, i ≤ j → j < n → Q i = true → Q j = true) (hq : Q m = true) : SrS W n Q a m w' :=
  ⟨hm, by have := h.bn; omega, h.lo, fun k hk hkn => hmono m k hk hkn hq, h.bel.trans (hb.mono h.bel.size)⟩
set_option maxHeartbeats 4000000 in
set_option maxRecDepth 100000 in
theorem search_c (n : Nat) (P1 P2 : Nat) (Q : Nat → Bool) (W : World) (hn : n ≤ 1000000)
    (hf : ∀ i, i < n → ∀ w, Below W.heap.size W w → Calls Tryz.prog 101 #[.int .i64 (i : Nat), .pointer (some ⟨P1, 0, none⟩), .pointer (some ⟨P2, 0, none⟩)] w (Good w (.bool (Q i))))
    (hmono : ∀ i j, i ≤ j → j < n → Q i = true → Q j = true) :
    Calls Tryz.prog 74 #[.int .i64 n, .func (.func 101) #[] #[.pointer (some ⟨P1, 0, none⟩), .pointer (some ⟨P2, 0, none⟩)]] W (GotSearch W n Q) := by
  have HF := Lib.hid hf
  have HM := Lib.hid hmono
  have H0 : Hid (SrS W n Q 0 n W) := Lib.hid ⟨Nat.zero_le _, Nat.le_refl _, (fun k hk => by omega), (fun k h1 h2 => by omega), Below.refl _ _⟩
  clear hf hmono
  go_enter Tryz.func74, Tryz.ntmps74
  go_wp2_with fail
  go_loopw [5, 6] (fun i j wr => ∃ a b : Nat, i = .int .i64 a ∧ j = .int .i64 b ∧ SrS W n Q a b wr) (fun i j _ => (intOf j).toNat - (intOf i).toNat)
  case atStart => exact ⟨0, n, rfl, rfl, H0.out⟩
  case round =>
    obtain ⟨a, b, rfl, rfl, hS⟩ := hrel
    clear H0
    have hbn := hS.bn
    by_cases hab : a < b
    · have habi : (a : Int) < (b : Int) := by omega
      obtain ⟨m, hm⟩ : ∃ m : Nat, m = (a + b) / 2 := ⟨_, rfl⟩
      have hm1 : a ≤ m := by omega
      have hm2 : m < b := by omega
      have g1 : IntKind.i64.wrap ((a : Int) + (b : Int)) = (a : Int) + (b : Int) := IntWalk.i64_in _ (by omega)
      have cf := HF.out m (by omega) wr hS.bel
      have HS := Lib.hid hS
      have HMM := Lib.hid (And.intro hm1 hm2)
      have hm6 : m ≤ 1000000 := by omega
      have g2 : ((a : Int) + (b : Int)) / 2 = (m : Int) := by omega
      cases hq : Q m with
      | true =>
        rw [hq] at cf
        have HQ := Lib.hid hq
        clear hS hbn hm hq
        go_wp2_with fail
        (with_reducible refine cf.mono ?_)
        rintro e w1 ⟨rfl, hb1⟩
        have H1 := Lib.hid (HS.out.down hb1 HMM.out.1 HMM.out.2 HM.out HQ.out)
        clear hb1 cf
        go_wp2_with fail
        go_roundw
        case rel => exact ⟨a, m, rfl, rfl, H1.out⟩
        case measure => simp [intOf]; omega
      | false =>
        rw [hq] at cf
        have HQ := Lib.hid hq
        clear hS hbn hm hq
        go_wp2_with fail
        (with_reducible refine cf.mono ?_)
        rintro e w1 ⟨rfl, hb1⟩
        have H1 := Lib.hid (HS.out.up hb1 HMM.out.1 HMM.out.2 HM.out HQ.out)
        clear hb1 cf
        go_wp2_with fail
        go_roundw
        case rel => exact ⟨m + 1, b, by go_num, rfl, H1.out⟩
        case measure => simp [intOf]; omega
    · have hba : b = a := by have := hS.ab; omega
      subst hba
      have HS := Lib.hid hS
      clear hS hbn
      go_wp2_with fail
      go_ret
      exact ⟨b, rfl, HS.out.bn, HS.out.lo, HS.out.hi, HS.out.bel⟩
/-- The place that a test leaves: of the last entry that is not beyond. -/
def aheadG (L : List En) (Q : En → Bool) : Int := (((L.takeWhile fun e => !Q e).getLast?).getD (0, 0, 0)).2.1
theorem aheadG_at {L : List En} {Q : En → Bool} {r : Nat} (hr : r ≤ L.length) (h0 : ∀ k e, k < r → L[k]? = some e → Q e = false) (h1 : ∀ k e, r ≤ k → L[k]? = some e → Q e = true) : aheadG L Q = if r = 0 then 0 else ((L[r - 1]?).getD (0, 0, 0)).2.1 := by
  have ht : (L.takeWhile fun e => !Q e) = L.take r := by
    have e : L = L.take r ++ L.drop r := (List.take_append_drop r L).symm
    have ha : ∀ x ∈ L.take r, (!Q x) = true := fun x hx => by
      obtain ⟨k, hk⟩ := List.getElem?_of_mem hx
      have hkr : k < r := by have := (List.getElem?_eq_some_iff.1 hk).1; rw [List.length_take] at this; omega
      rw [List.getElem?_take_of_lt hkr] at hk
      rw [h0 k x hkr hk]
      rfl
    have hb : (L.drop r).takeWhile (fun e => !Q e) = [] := by
      cases hd : L.drop r with
      | nil => rfl
      | cons y l =>
        have hy : L[r]? = some y := by
          have := congrArg (fun m => m[0]?) hd
          simpa [List.getElem?_drop] using this
        rw [List.takeWhile_cons_of_neg (by rw [h1 r y (Nat.le_refl _) hy]; decide)]
    rw [e, List.takeWhile_append_of_pos ha, hb, List.append_nil, ← e]
  unfold aheadG
  rw [ht]
  by_cases h : r = 0
  · subst h; rfl
  · rw [if_neg h, List.getLast?_eq_getElem?, List.length_take, Nat.min_eq_left hr, List.getElem?_take_of_lt (by omega)]
end Go.Proofs.YtjnphajkoopkgaaGreatDoor.Ix
