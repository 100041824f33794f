/- coord: merged texts. What each proves is told at its head. -/
import Derived.Test.YtlokhhjhckiloaaGreatQ2
import Derived.Test.YtlokhhjhckiloaaGreatKgA
/- offsets: the document's table in memory; key, find, Get, ahead, by contracts. No condition but that they are not too many. -/
namespace Go.Proofs.YtlokhhjhckiloaaGreat.Of
open Go.RowKit
set_option linter.unusedVariables false
def rwC (e : KE) : List Value := [.string e.1.g, .string e.1.t, .int .i64 e.1.i, .int .i64 e.2]
def rowE (L : List KE) : List Value := L.flatMap rwC
theorem rowE_len (L : List KE) : (rowE L).length = L.length * 4 := by
  induction L with
  | nil => rfl
  | cons x l ih => show (_ :: _ :: _ :: _ :: rowE l).length = _; simp only [List.length_cons, ih]; omega
theorem rowE_app (a b : List KE) : rowE (a ++ b) = rowE a ++ rowE b := by unfold rowE; rw [List.flatMap_append]
theorem rowE_one (L : List KE) : ∀ y ∈ rowE L, y.oneCell' = true := by
  intro y hy
  obtain ⟨x, _, hs⟩ := List.mem_flatMap.1 hy
  unfold rwC at hs
  simp at hs
  rcases hs with rfl | rfl | rfl | rfl <;> rfl
theorem rowE_at : ∀ {L : List KE} {j : Nat} {x : KE}, L[j]? = some x → (rowE L)[j * 4]? = some (.string x.1.g) ∧ (rowE L)[j * 4 + 1]? = some (.string x.1.t) ∧ (rowE L)[j * 4 + 2]? = some (.int .i64 x.1.i) ∧ (rowE L)[j * 4 + 3]? = some (.int .i64 x.2)
  | [], j, e, h => by cases h
  | x :: l, 0, e, h => by
    have : x = e := by simpa using h
    subst this
    exact ⟨rfl, rfl, rfl, rfl⟩
  | x :: l, j + 1, e, h => by
    have ih := rowE_at (L := l) (j := j) (x := e) (by simpa using h)
    have hl : (rwC x).length = 4 := rfl
    show (rwC x ++ rowE l)[(j + 1) * 4]? = _ ∧ (rwC x ++ rowE l)[(j + 1) * 4 + 1]? = _ ∧ (rwC x ++ rowE l)[(j + 1) * 4 + 2]? = _ ∧ (rwC x ++ rowE l)[(j + 1) * 4 + 3]? = _
    rw [List.getElem?_append_right (by rw [hl]; omega), List.getElem?_append_right (by rw [hl]; omega), List.getElem?_append_right (by rw [hl]; omega), List.getElem?_append_right (by rw [hl]; omega), hl]
    rw [show (j + 1) * 4 - 4 = j * 4 by omega, show (j + 1) * 4 + 1 - 4 = j * 4 + 1 by omega, show (j + 1) * 4 + 2 - 4 = j * 4 + 2 by omega, show (j + 1) * 4 + 3 - 4 = j * 4 + 3 by omega]
    exact ih
/-- The document's table in memory. -/
structure RdIs (w : World) (base p : Nat) (room : Int) (L : List KE) (A : Option Addr) (c : Nat) : Prop where
  box : Box w p 73 #[.int .i64 room, .slice A L.length c]
  row : w.ownsRow base 117 4 (.slice A L.length c) L.length (rowE L)
theorem RdIs.later {w w' : World} {base p c : Nat} {room : Int} {L : List KE} {A : Option Addr} (h : RdIs w base p room L A c) (hb : Below w.heap.size w w') : RdIs w' base p room L A c := ⟨h.box.later hb, own_below h.row hb⟩
theorem RdIs.cells {w : World} {base p c : Nat} {room : Int} {L : List KE} {A : Option Addr} (h : RdIs w base p room L A c) : w.cell? ⟨p, 0, none⟩ = some (.int .i64 room) ∧ w.cell? ⟨p, 1, none⟩ = some (.slice A L.length c) ∧ p < w.heap.size := ⟨(h.box.cell 0).trans rfl, (h.box.cell 1).trans rfl, h.box.lt⟩
theorem rd_cell {w : World} {base c n : Nat} {L : List KE} {A : Option Addr} (hn : L.length = n) (hrow : w.ownsRow base 117 4 (.slice A n c) n (rowE L)) {j : Nat} {x : KE} (hj : L[j]? = some x) :
    ∃ g, A = some ⟨g, 0, none⟩ ∧ base ≤ g ∧ w.cell? ⟨g, j * 4, none⟩ = some (.string x.1.g) ∧ w.cell? ⟨g, j * 4 + 1, none⟩ = some (.string x.1.t) ∧ w.cell? ⟨g, j * 4 + 2, none⟩ = some (.int .i64 x.1.i) ∧ w.cell? ⟨g, j * 4 + 3, none⟩ = some (.int .i64 x.2) ∧ w.frozen? ⟨g, j * 4 + 3, none⟩ = false ∧ g < w.heap.size ∧ n ≤ c := by
  have hl : j < n := by rw [← hn]; exact (List.getElem?_eq_some_iff.1 hj).1
  rcases hrow.2 with ⟨hv, h0⟩ | ⟨g, cap, cur, hv, hg, hh, h4, h5, h6, h7⟩
  · omega
  · injection hv with e1 e2 e3
    subst e1 e3
    obtain ⟨k1, k2, k3, k4⟩ := rowE_at hj
    exact ⟨g, rfl, hg, (hrow.cellAt (j * 4) (by omega)).trans k1, (hrow.cellAt (j * 4 + 1) (by omega)).trans k2, (hrow.cellAt (j * 4 + 2) (by omega)).trans k3, (hrow.cellAt (j * 4 + 3) (by omega)).trans k4, by simp [World.frozen?, hh], lt_of_there hh, h4⟩
/-- Are two keys one? -/
def eqK (a b : KY) : Bool := (a.g.toList == b.g.toList) && ((a.t.toList == b.t.toList) && (a.i == b.i))
theorem eqK_iff (a b : KY) : eqK a b = true ↔ a = b := by
  unfold eqK
  rw [str_eq, str_eq]
  simp only [Bool.and_eq_true, decide_eq_true_eq, beq_iff_eq]
  constructor
  · rintro ⟨h1, h2, h3⟩; exact ky_ext h1 h2 h3
  · rintro rfl; exact ⟨rfl, rfl, rfl⟩
/-- The place of a key, -1 of none. -/
def findD (L : List KE) (k : KY) : Int := match L.findIdx? (fun e => eqK e.1 k) with | some i => (i : Int) | none => -1
set_option maxHeartbeats 4000000 in
set_option maxRecDepth 100000 in
theorem dkey_c (k : KY) (hg : k.g.size ≤ 140737488351232) (ht : k.t.size ≤ 140737488351232) (W : World) : Calls Tryz.prog 60 #[.string k.g, .agg #[.string k.t, .int .i64 k.i]] W (fun e w' => e = .returned (.bool (mayK k)) ∧ Below W.heap.size W w') := by
  have hb := Box.new W 34 #[.string k.t, .int .i64 k.i]
  have z0 := (hb.cell 0).trans (show _ = some (Value.string k.t) from rfl)
  have z1 := (hb.cell 1).trans (show _ = some (Value.int .i64 k.i) from rfl)
  have HB := Lib.hid ((Below.refl W.heap.size W).alloc (Nat.le_refl _) (.cells #[.string k.t, .int .i64 k.i] 34))
  have HV : Hid (mayK k = decide ((1 ≤ (k.g.size : Int) ∧ (k.g.size : Int) ≤ 100) ∧ (1 ≤ (k.t.size : Int) ∧ (k.t.size : Int) ≤ 100) ∧ 0 ≤ k.i ∧ k.i ≤ 15)) := Lib.hid (by
    unfold mayK witB
    rw [Bool.eq_iff_iff]
    simp only [Bool.and_eq_true, decide_eq_true_eq])
  clear hb
  by_cases h1 : 1 ≤ (k.g.size : Int)
  · by_cases h2 : (k.g.size : Int) ≤ 100
    · by_cases h3 : 1 ≤ (k.t.size : Int)
      · by_cases h4 : (k.t.size : Int) ≤ 100
        · by_cases h5 : 0 ≤ k.i
          · by_cases h6 : k.i ≤ 15
            · go_enter Tryz.func60, Tryz.ntmps60
              go_wp2_with fail
              go_ret
              exact ⟨by rw [HV.out, decide_eq_true ⟨⟨h1, h2⟩, ⟨h3, h4⟩, h5, h6⟩]; rfl, HB.out⟩
            · go_enter Tryz.func60, Tryz.ntmps60
              go_wp2_with fail
              go_ret
              exact ⟨by rw [HV.out, decide_eq_false (by omega)]; rfl, HB.out⟩
          · go_enter Tryz.func60, Tryz.ntmps60
            go_wp2_with fail
            go_ret
            exact ⟨by rw [HV.out, decide_eq_false (by omega)]; rfl, HB.out⟩
        · go_enter Tryz.func60, Tryz.ntmps60
          go_wp2_with fail
          go_ret
          exact ⟨by rw [HV.out, decide_eq_false (by omega)]; rfl, HB.out⟩
      · go_enter Tryz.func60, Tryz.ntmps60
        go_wp2_with fail
        go_ret
        exact ⟨by rw [HV.out, decide_eq_false (by omega)]; rfl, HB.out⟩
    · go_enter Tryz.func60, Tryz.ntmps60
      go_wp2_with fail
      go_ret
      exact ⟨by rw [HV.out, decide_eq_false (by omega)]; rfl, HB.out⟩
  · go_enter Tryz.func60, Tryz.ntmps60
    go_wp2_with fail
    go_ret
    exact ⟨by rw [HV.out, decide_eq_false (by omega)]; rfl, HB.out⟩
/-- While it is looked for. -/
structure FdI (W : World) (base p : Nat) (room : Int) (L : List KE) (A : Option Addr) (c : Nat) (k : KY) (w : World) : Prop where
  is : RdIs w base p room L A c
  pb : Box w W.heap.size 34 #[.string k.t, .int .i64 k.i]
  below : Below W.heap.size W w
theorem FdI.later {W w w' : World} {base p c : Nat} {room : Int} {L : List KE} {A : Option Addr} {k : KY} (h : FdI W base p room L A c k w) (hb : Below w.heap.size w w') : FdI W base p room L A c k w' := ⟨h.is.later hb, h.pb.later hb, h.below.trans (hb.mono h.below.size)⟩
set_option maxHeartbeats 8000000 in
set_option maxRecDepth 100000 in
theorem dfind_c (base p c : Nat) (room : Int) (L : List KE) (A : Option Addr) (k : KY) (W : World) (h : RdIs W base p room L A c) (hl : L.length ≤ 1000000) :
    Calls Tryz.prog 61 #[.pointer (some ⟨p, 0, none⟩), .string k.g, .agg #[.string k.t, .int .i64 k.i]] W (fun e w' => e = .returned (.int .i64 (findD L k)) ∧ Below W.heap.size W w') := by
  have hBA := (Below.refl W.heap.size W).alloc (Nat.le_refl _) (.cells #[.string k.t, .int .i64 k.i] 34)
  have HI0 := Lib.hid (show FdI W base p room L A c k _ from ⟨h.later hBA, Box.new _ _ _, hBA⟩)
  obtain ⟨c0, c1, cl⟩ := HI0.out.is.cells
  obtain ⟨r, hr⟩ : ∃ r, findD L k = r := ⟨_, rfl⟩
  have HR : Hid (match L.findIdx? (fun e => eqK e.1 k) with | some i => r = (i : Int) | none => r = -1) := Lib.hid (by
    rw [← hr]
    unfold findD
    split <;> rfl)
  rw [hr]
  obtain ⟨n, hn⟩ : ∃ n, L.length = n := ⟨_, rfl⟩
  have HN := Lib.hid hn
  rw [hn] at hl c1
  clear h hr hBA hn
  go_enter Tryz.func61, Tryz.ntmps61
  go_wp2_with fail
  go_loopw [7] (fun i wr => ∃ j : Nat, i = .int .i64 j ∧ j ≤ n ∧ (∀ m, m < j → ∀ x, L[m]? = some x → eqK x.1 k = false) ∧ FdI W base p room L A c k wr) (fun i _ => n - (intOf i).toNat)
  case atStart => exact ⟨0, rfl, Nat.zero_le _, fun m hm => by omega, HI0.out⟩
  case round =>
    obtain ⟨j, rfl, hj, hno, hI⟩ := hrel
    have HNO := Lib.hid hno
    have HI := Lib.hid hI
    clear hno hI HI0 c0 c1 cl
    obtain ⟨c0, c1, cl⟩ := HI.out.is.cells
    rw [HN.out] at c1
    have q0 := (HI.out.pb.cell 0).trans (show _ = some (Value.string k.t) from rfl)
    have q1 := (HI.out.pb.cell 1).trans (show _ = some (Value.int .i64 k.i) from rfl)
    by_cases hjn : j < n
    · obtain ⟨x, hx⟩ : ∃ x, L[j]? = some x := ⟨_, List.getElem?_eq_getElem (by rw [HN.out]; exact hjn)⟩
      have hrow := HI.out.is.row
      rw [HN.out] at hrow
      obtain ⟨g, rfl, _, z0, z1, z2, _, _, hg, hc⟩ := rd_cell HN.out hrow hx
      have hK0 : (0 : Int) ≤ (j : Int) := by omega
      have hK1 : (j : Int) < (n : Int) := by omega
      have HX := Lib.hid hx
      have HEQ := Lib.hid (show eqK x.1 k = ((x.1.g.toList == k.g.toList) && ((x.1.t.toList == k.t.toList) && (x.1.i == k.i))) from rfl)
      have hgd := fun (a b : Operand) w => part_guard .eql a b #[.string x.1.t, .int .i64 x.1.i] #[.string k.t, .int .i64 k.i] w
      have hpe := fun w => part_eql x.1.t k.t x.1.i k.i w
      clear hx hrow
      cases hb1 : (x.1.g.toList == k.g.toList) with
      | false =>
        rw [hb1, Bool.false_and] at HEQ
        clear hpe hgd
        go_wp2_with fail
        go_quiet (fail)
        have HI6 := Lib.hid (HI.out.later (below_drewN (Below.refl _ wr) nq))
        go_wp2_with fail
        exact ⟨⟨j + 1, by go_num, hjn, fun m hm y hy => by
          rcases Nat.lt_succ_iff_lt_or_eq.1 hm with h | h
          · exact HNO.out m h y hy
          · subst h
            have := HX.out
            rw [hy] at this
            injection this with this
            rw [this]; exact HEQ.out, HI6.out⟩, by simp [intOf]; omega⟩
      | true =>
        rw [hb1, Bool.true_and] at HEQ
        obtain ⟨bb, hbb⟩ : ∃ bb, ((x.1.t.toList == k.t.toList) && (x.1.i == k.i)) = bb := ⟨_, rfl⟩
        rw [hbb] at HEQ hpe
        clear hbb
        cases bb with
        | false =>
          go_wp2_with fail
          go_quiet (fail)
          have HI6 := Lib.hid (HI.out.later (below_drewN (Below.refl _ wr) nq))
          go_wp2_with fail
          exact ⟨⟨j + 1, by go_num, hjn, fun m hm y hy => by
            rcases Nat.lt_succ_iff_lt_or_eq.1 hm with h | h
            · exact HNO.out m h y hy
            · subst h
              have := HX.out
              rw [hy] at this
              injection this with this
              rw [this]; exact HEQ.out, HI6.out⟩, by simp [intOf]; omega⟩
        | true =>
          go_wp2_with fail
          go_quiet (fail)
          have HI6 := Lib.hid (HI.out.later (below_drewN (Below.refl _ wr) nq))
          go_wp2_with fail
          go_ret
          refine ⟨?_, HI6.out.below⟩
          have hfi : L.findIdx? (fun e => eqK e.1 k) = some j := by
            rw [List.findIdx?_eq_some_iff_getElem]
            have hjl : j < L.length := by rw [HN.out]; exact hjn
            refine ⟨hjl, ?_, fun m hm => ?_⟩
            · have : L[j] = x := (List.getElem?_eq_some_iff.1 HX.out).2
              rw [this]
              exact HEQ.out
            · have := HNO.out m hm L[m] (List.getElem?_eq_getElem (by omega))
              rw [this]; decide
          have := HR.out
          rw [hfi] at this
          rw [this]
          rfl
    · have hjn' : ¬ (j : Int) < (n : Int) := by omega
      go_wp2_with fail
      go_ret
      refine ⟨?_, HI.out.below⟩
      have hfi : L.findIdx? (fun e => eqK e.1 k) = none := by
        rw [List.findIdx?_eq_none_iff]
        intro x hx
        obtain ⟨m, hm⟩ := List.getElem?_of_mem hx
        exact HNO.out m (by have := (List.getElem?_eq_some_iff.1 hm).1; rw [HN.out] at this; omega) x hm
      have := HR.out
      rw [hfi] at this
      rw [this]
      rfl
end Go.Proofs.YtlokhhjhckiloaaGreat.Of
/- offsets: the document's Get, ahead, cut, by contracts; plain words on places. No condition but that they are not too many. -/
namespace Go.Proofs.YtlokhhjhckiloaaGreat.Of
open Go.RowKit Go.WideAt
set_option linter.unusedVariables false
theorem findD_none {L : List KE} {k : KY} (h : ∀ e ∈ L, e.1 ≠ k) : findD L k = -1 := by
  unfold findD
  have : L.findIdx? (fun e => eqK e.1 k) = none := by
    rw [List.findIdx?_eq_none_iff]
    intro e he
    cases hh : eqK e.1 k with
    | false => rfl
    | true => exact absurd ((eqK_iff _ _).1 hh) (h e he)
  rw [this]
theorem findD_some {L : List KE} {k : KY} {e : KE} (he : e ∈ L) (hk : e.1 = k) : ∃ (i : Nat) (e' : KE), findD L k = (i : Int) ∧ L[i]? = some e' ∧ e'.1 = k := by
  unfold findD
  cases hf : L.findIdx? (fun e => eqK e.1 k) with
  | none =>
    rw [List.findIdx?_eq_none_iff] at hf
    have := hf e he
    rw [(eqK_iff _ _).2 hk] at this
    cases this
  | some i =>
    rw [List.findIdx?_eq_some_iff_getElem] at hf
    obtain ⟨hi, h1, _⟩ := hf
    exact ⟨i, L[i], rfl, List.getElem?_eq_getElem hi, (eqK_iff _ _).1 h1⟩
/-- Get of the document. -/
def geD (L : List KE) (k : KY) : Int × Bool := match L.find? (fun e => eqK e.1 k) with | some e => (e.2, true) | none => (0, false)
theorem geD_find (L : List KE) (k : KY) : (findD L k = -1 ∧ geD L k = (0, false)) ∨ ∃ (i : Nat) (e : KE), findD L k = (i : Int) ∧ L[i]? = some e ∧ e.1 = k ∧ geD L k = (e.2, true) := by
  unfold findD geD
  cases hf : L.findIdx? (fun e => eqK e.1 k) with
  | none =>
    left
    refine ⟨rfl, ?_⟩
    have : L.find? (fun e => eqK e.1 k) = none := by
      rw [List.find?_eq_none]
      rw [List.findIdx?_eq_none_iff] at hf
      intro e he
      rw [hf e he]; decide
    rw [this]
  | some i =>
    right
    have hf' := hf
    rw [List.findIdx?_eq_some_iff_getElem] at hf'
    obtain ⟨hi, h1, h2⟩ := hf'
    refine ⟨i, L[i], rfl, List.getElem?_eq_getElem hi, (eqK_iff _ _).1 h1, ?_⟩
    have : L.find? (fun e => eqK e.1 k) = some L[i] := by
      rw [List.find?_eq_some_iff_getElem]
      exact ⟨h1, i, hi, rfl, fun j hj => by simpa using h2 j hj⟩
    rw [this]
set_option maxHeartbeats 4000000 in
set_option maxRecDepth 100000 in
theorem dget_c (base p c : Nat) (room : Int) (L : List KE) (A : Option Addr) (k : KY) (W : World) (h : RdIs W base p room L A c) (hl : L.length ≤ 1000000) :
    Calls Tryz.prog 33 #[.pointer (some ⟨p, 0, none⟩), .string k.g, .agg #[.string k.t, .int .i64 k.i]] W (fun e w' => e = .returned (.tuple #[.int .i64 (geD L k).1, .bool (geD L k).2]) ∧ Below W.heap.size W w') := by
  have hBA := (Below.refl W.heap.size W).alloc (Nat.le_refl _) (.cells #[.string k.t, .int .i64 k.i] 34)
  have HI0 := Lib.hid (show FdI W base p room L A c k _ from ⟨h.later hBA, Box.new _ _ _, hBA⟩)
  have cf := dfind_c base p c room L A k _ HI0.out.is hl
  have q0 := (HI0.out.pb.cell 0).trans (show _ = some (Value.string k.t) from rfl)
  have q1 := (HI0.out.pb.cell 1).trans (show _ = some (Value.int .i64 k.i) from rfl)
  obtain ⟨c0, c1, cl⟩ := HI0.out.is.cells
  rcases geD_find L k with ⟨h1, h2⟩ | ⟨i, e, h1, h2, h3, h4⟩
  · rw [h1] at cf
    rw [h2]
    clear h hBA h1 h2
    go_enter Tryz.func33, Tryz.ntmps33
    go_wp2_with fail
    with_reducible refine cf.mono ?_
    rintro en w1 ⟨rfl, hb⟩
    have HI1 := Lib.hid (HI0.out.later hb)
    clear hb cf HI0 q0 q1 c0 c1 cl
    go_wp2_with fail
    go_ret2
    exact ⟨rfl, HI1.out.below⟩
  · rw [h1] at cf
    rw [h4]
    have HE := Lib.hid h2
    have hil : i < L.length := (List.getElem?_eq_some_iff.1 h2).1
    have hi0 : (0 : Int) ≤ (i : Int) := by omega
    have hi1 : (i : Int) < (L.length : Int) := by omega
    clear h hBA h1 h2 h3 h4
    go_enter Tryz.func33, Tryz.ntmps33
    go_wp2_with fail
    with_reducible refine cf.mono ?_
    rintro en w1 ⟨rfl, hb⟩
    have HI1 := Lib.hid (HI0.out.later hb)
    clear hb cf HI0 q0 q1 c0 c1 cl
    obtain ⟨c0, c1, cl⟩ := HI1.out.is.cells
    obtain ⟨g, rfl, _, z0, z1, z2, z3, _, hg, hc⟩ := rd_cell rfl HI1.out.is.row HE.out
    go_wp2_with fail
    go_ret2
    exact ⟨rfl, HI1.out.below⟩
theorem less_cmp (a b : ByteArray) : Op.bytesLess a.toList b.toList = decide (Lib.compareBytes a.data.toList b.data.toList < 0) := by
  rw [less_before, ByteArray.toList_eq, ByteArray.toList_eq, Bool.eq_iff_iff, decide_eq_true_eq, cmp_before]
set_option maxHeartbeats 4000000 in
set_option maxRecDepth 100000 in
theorem ahead_c (x : KE) (k : KY) (W : World) : Calls Tryz.prog 62 #[.agg #[.string x.1.g, .string x.1.t, .int .i64 x.1.i, .int .i64 x.2], .string k.g, .agg #[.string k.t, .int .i64 k.i]] W (fun e w' => e = .returned (.bool (decide (cfK x.1 k < 0))) ∧ Below W.heap.size W w') := by
  have hb1 := Box.new W 117 #[.string x.1.g, .string x.1.t, .int .i64 x.1.i, .int .i64 x.2]
  have hA1 := (Below.refl W.heap.size W).alloc (Nat.le_refl _) (.cells #[.string x.1.g, .string x.1.t, .int .i64 x.1.i, .int .i64 x.2] 117)
  have hA2 := (Below.refl (W.alloc (.cells #[.string x.1.g, .string x.1.t, .int .i64 x.1.i, .int .i64 x.2] 117)).heap.size _).alloc (Nat.le_refl _) (.cells #[.string k.t, .int .i64 k.i] 34)
  have hb2 := Box.new (W.alloc (.cells #[.string x.1.g, .string x.1.t, .int .i64 x.1.i, .int .i64 x.2] 117)) 34 #[.string k.t, .int .i64 k.i]
  rw [World.size_alloc] at hb2
  have hb1' := hb1.later hA2
  have HB := Lib.hid (hA1.trans (hA2.mono (by simp)))
  have z0 := (hb1'.cell 0).trans (show _ = some (Value.string x.1.g) from rfl)
  have z1 := (hb1'.cell 1).trans (show _ = some (Value.string x.1.t) from rfl)
  have z2 := (hb1'.cell 2).trans (show _ = some (Value.int .i64 x.1.i) from rfl)
  have y0 := (hb2.cell 0).trans (show _ = some (Value.string k.t) from rfl)
  have y1 := (hb2.cell 1).trans (show _ = some (Value.int .i64 k.i) from rfl)
  clear hb1 hb2 hA1 hA2 hb1'
  have l1 := less_cmp x.1.g k.g
  have l2 := less_cmp x.1.t k.t
  have HC : Hid (cfK x.1 k = or3 (Lib.compareBytes x.1.g.data.toList k.g.data.toList) (Lib.compareBytes x.1.t.data.toList k.t.data.toList) (Lib.compareInt x.1.i k.i)) := Lib.hid rfl
  have zg := tri_bytes.zero x.1.g.data.toList k.g.data.toList
  have zt := tri_bytes.zero x.1.t.data.toList k.t.data.toList
  by_cases hg : x.1.g = k.g
  · have e1 : (x.1.g.toList == k.g.toList) = true := by rw [hg]; exact beq_self _
    have c1 : Lib.compareBytes x.1.g.data.toList k.g.data.toList = 0 := zg.2 (by rw [hg])
    by_cases ht : x.1.t = k.t
    · have e2 : (x.1.t.toList == k.t.toList) = true := by rw [ht]; exact beq_self _
      have c2 : Lib.compareBytes x.1.t.data.toList k.t.data.toList = 0 := zt.2 (by rw [ht])
      have HV : Hid (decide (cfK x.1 k < 0) = decide (x.1.i < k.i)) := Lib.hid (by
        rw [HC.out, c1, c2]
        unfold or3 Lib.compareInt
        rw [if_pos rfl, if_pos rfl, Bool.eq_iff_iff, decide_eq_true_eq, decide_eq_true_eq]
        constructor
        · intro h; split at h
          · assumption
          · split at h <;> omega
        · intro h; rw [if_pos h]; omega)
      clear zg zt hg ht c1 c2 l1 l2 HC
      go_enter Tryz.func62, Tryz.ntmps62
      go_wp2_with fail
      go_ret
      exact ⟨by rw [HV.out]; rfl, HB.out⟩
    · have e2 := str_ne' ht
      have c2 : ¬ Lib.compareBytes x.1.t.data.toList k.t.data.toList = 0 := fun e => ht (ba_inj (zt.1 e))
      have HV : Hid (decide (cfK x.1 k < 0) = decide (Lib.compareBytes x.1.t.data.toList k.t.data.toList < 0)) := Lib.hid (by
        rw [HC.out, c1]
        unfold or3
        rw [if_pos rfl, if_neg c2])
      clear zg zt hg ht c1 c2 l1 HC
      obtain ⟨b, hb⟩ : ∃ b, decide (Lib.compareBytes x.1.t.data.toList k.t.data.toList < 0) = b := ⟨_, rfl⟩
      rw [hb] at l2 HV
      clear hb
      go_enter Tryz.func62, Tryz.ntmps62
      go_wp2_with fail
      go_ret
      exact ⟨by rw [HV.out]; rfl, HB.out⟩
  · have e1 := str_ne' hg
    have c1 : ¬ Lib.compareBytes x.1.g.data.toList k.g.data.toList = 0 := fun e => hg (ba_inj (zg.1 e))
    have HV : Hid (decide (cfK x.1 k < 0) = decide (Lib.compareBytes x.1.g.data.toList k.g.data.toList < 0)) := Lib.hid (by
      rw [HC.out]
      unfold or3
      rw [if_neg c1])
    clear zg zt hg c1 l2 HC
    obtain ⟨b, hb⟩ : ∃ b, decide (Lib.compareBytes x.1.g.data.toList k.g.data.toList < 0) = b := ⟨_, rfl⟩
    rw [hb] at l1 HV
    clear hb
    go_enter Tryz.func62, Tryz.ntmps62
    go_wp2_with fail
    go_ret
    exact ⟨by rw [HV.out]; rfl, HB.out⟩
end Go.Proofs.YtlokhhjhckiloaaGreat.Of
/- offsets: the document's cut, by a contract. No condition but that they are not too many. -/
namespace Go.Proofs.YtlokhhjhckiloaaGreat.Of
open Go.RowKit Go.WideAt
set_option linter.unusedVariables false
def KeepO (bad : Obj → Prop) (w w' : World) : Prop := ∀ (k : Nat) (o : Obj), w.heap[k]? = some o → ¬ bad o → w'.heap[k]? = some o
theorem KeepO.of_below {bad : Obj → Prop} {w w' : World} (hb : Below w.heap.size w w') : KeepO bad w w' := fun k o hk _ => (hb.block k (lt_of_there hk)).trans hk
theorem KeepO.trans {bad : Obj → Prop} {w w' w'' : World} (h : KeepO bad w w') (k : KeepO bad w' w'') : KeepO bad w w'' := fun i o hi hb => k i o (h i o hi hb) hb
/-- The document's kinds of blocks. -/
def badD (o : Obj) : Prop := ∃ cs fr, o = .cells cs 73 fr ∨ o = .cells cs 117 fr
theorem KeepO.box {w w' : World} {b : Nat} {t : TypeId} {cs : Array Value} (h : KeepO badD w w') (hb : Box w b t cs) (h1 : t ≠ 73) (h2 : t ≠ 117) : Box w' b t cs :=
  h b _ hb (fun ⟨cs', fr, e⟩ => by rcases e with e | e <;> (injection e with _ e2 _; first | exact h1 e2 | exact h2 e2))
theorem KeepO.is {w w' : World} {p g : Nat} {room : Int} {F : List KE} (h : KeepO badD w w') (hi : OfIs w p g room F) : OfIs w' p g room F := by
  refine ⟨h.box hi.box (by decide) (by decide), ?_, hi.rise⟩
  obtain ⟨es, clock, hb, Ft, hs, hD⟩ := hi.map
  exact ⟨es, clock, h g _ hb (fun ⟨cs', fr, e⟩ => by rcases e with e | e <;> cases e), Ft, hs, hD⟩
theorem own_base2 {w : World} {B base n sz : Nat} {t : TypeId} {v : Value} {xs : List Value} (h : w.ownsRow B t sz v n xs) (hb : base ≤ B) : w.ownsRow base t sz v n xs := by
  refine ⟨h.1, ?_⟩
  rcases h.2 with h0 | ⟨g, cap, cur, hv, hg, rest⟩
  · exact .inl h0
  · exact .inr ⟨g, cap, cur, hv, by omega, rest⟩
/-- What a call on the document's table leaves. -/
def GotD (W : World) (base p : Nat) (room : Int) (G : List KE) (v : Value) (e : Ending) (w' : World) : Prop := e = .returned v ∧ (∃ A c, RdIs w' base p room G A c) ∧ KeepO badD W w' ∧ Below base W w'
theorem keep_set {w : World} {b i : Nat} {t : TypeId} {cs : Array Value} (hb : Box w b t cs) (ht : t = 73 ∨ t = 117) (u : Value) : KeepO badD w (w.setCell ⟨b, i, none⟩ u) := fun k o hk hbad => by
  by_cases e : k = b
  · subst e
    unfold Box at hb
    rw [hb] at hk
    injection hk with hk
    exact absurd ⟨cs, (0, 0), by rcases ht with rfl | rfl; exact .inl hk.symm; exact .inr hk.symm⟩ hbad
  · exact (Below.heap_setCell w _ u k e).trans hk
theorem d_close {W w3 : World} {base p d3 c : Nat} {m : Nat} {room : Int} {L G : List KE} {A A3 : Option Addr} (h : RdIs W base p room L A c) (hbase : base ≤ W.heap.size) (hp : base ≤ p) (hB : Below W.heap.size W w3) (hG : G.length = m) (o3 : w3.ownsRow W.heap.size 117 4 (.slice A3 m d3) m (rowE G)) :
    (∃ A c, RdIs (w3.setCell ⟨p, 1, none⟩ (.slice A3 m d3)) base p room G A c) ∧ KeepO badD W (w3.setCell ⟨p, 1, none⟩ (.slice A3 m d3)) ∧ Below base W (w3.setCell ⟨p, 1, none⟩ (.slice A3 m d3)) := by
  subst hG
  have hbx := h.box.later hB
  have hO : Off (fun k => k = p) w3 (w3.setCell ⟨p, 1, none⟩ (.slice A3 G.length d3)) := (Off.refl (fun k => k = p) w3).set (p := ⟨p, 1, none⟩) (.inl rfl) _
  exact ⟨⟨A3, d3, hbx.set 1 _, own_off (own_base2 o3 hbase) hO (fun k hk => own_ne o3 hbx (by decide) k hk)⟩, (KeepO.of_below hB).trans (keep_set hbx (.inl rfl) _), (hB.mono hbase).trans (hO.below (by have := hB.size; omega) (fun k e => by have e : k = p := e; omega))⟩
theorem rowE_split (L : List KE) (k : Nat) : rowE L = rowE (L.take k) ++ rowE (L.drop k) := by rw [← rowE_app, List.take_append_drop]
theorem rwInfo : (Tryz.prog.info? 117).map (fun i => (i.zero, i.size, i.bytes)) = some (some (.agg #[.string ⟨#[]⟩, .string ⟨#[]⟩, .int .i64 0, .int .i64 0]), 4, 48) := by kernel_rfl
set_option maxHeartbeats 8000000 in
set_option maxRecDepth 100000 in
theorem dcut_c (base p c : Nat) (room : Int) (L : List KE) (A : Option Addr) (j : Nat) (W : World) (h : RdIs W base p room L A c) (hl : L.length ≤ 1000000) (hbase : base ≤ W.heap.size) (hp : base ≤ p) (hjl : j < L.length) :
    Calls Tryz.prog 63 #[.pointer (some ⟨p, 0, none⟩), .int .i64 j] W (GotD W base p room (L.take j ++ L.drop (j + 1)) (.tuple #[])) := by
  have H := Lib.hid h
  have hpl := h.box.lt
  have c1 := (h.box.cell 1).trans (show _ = some (Value.slice A L.length c) from rfl)
  obtain ⟨x, hje⟩ : ∃ x, L[j]? = some x := ⟨_, List.getElem?_eq_getElem hjl⟩
  obtain ⟨g, rfl, _, z0, z1, z2, z3, _, hgl, hc⟩ := rd_cell rfl h.row hje
  have hrow := h.row
  have hsp : rowE L = rowE (L.take j) ++ (rwC x ++ rowE (L.drop (j + 1))) := by
    rw [rowE_split L j, List.drop_eq_getElem_cons hjl, (List.getElem?_eq_some_iff.1 hje).2]
    rfl
  have hone := rowE_one L
  rw [hsp] at hrow hone
  obtain ⟨A1, d1, w1, A3, d3, w3, r1, r3, b1, b3, o3⟩ := del2 (t := 71) (by decide) Tryz.underlying71 rwInfo rfl (by decide) hrow (k := j) (m := L.length - (j + 1)) (by rw [rowE_len, List.length_take]; congr 1; omega) rfl (by rw [rowE_len, List.length_drop]) (by omega) hone (by omega)
  have hji : (j : Int) < (L.length : Int) := by omega
  have hj0 : (0 : Int) ≤ (j : Int) := by omega
  have hj1 : (0 : Int) ≤ (j : Int) + 1 := by omega
  have hjc : (j : Int) ≤ (c : Int) := by omega
  have HB3 := Lib.hid b3
  have HO3 := Lib.hid o3
  have x11 := (h.box.later b1).cell 1 |>.trans (show _ = some (Value.slice _ L.length c) from rfl)
  have x31 := (h.box.later b3).frozen 1
  have x33 := (h.box.later b3).cell 1 |>.trans (show _ = some (Value.slice _ L.length c) from rfl)
  have p1 : p < w1.heap.size := Nat.lt_of_lt_of_le hpl b1.size
  have p3 : p < w3.heap.size := Nat.lt_of_lt_of_le hpl b3.size
  have HID : Hid (j + (L.length - (j + 1)) = (L.take j ++ L.drop (j + 1)).length) := Lib.hid (by rw [List.length_append, List.length_take, List.length_drop]; omega)
  have hnat : ((j : Int) + 1).toNat = j + 1 := by omega
  clear h hje hrow hsp hone b1 b3 o3
  unfold sliced at r3
  by_cases hck : c = j + 1
  · rw [if_pos hck, show L.length - (j + 1) = 0 by omega, show c - (j + 1) = 0 by omega] at r3
    have HCK : Hid (L.length = j + 1) := Lib.hid (by omega)
    subst hck
    go_enter Tryz.func63, Tryz.ntmps63
    go_wp2_with (at_builtin; first | refine wpList_append_run rfl (.tmp 5) (.tmp 11) 71 rfl _ _ _ rfl rfl r1 ?_ | refine wpList_append_run rfl (.tmp 14) (.tmp 21) 71 rfl _ _ _ rfl rfl r3 ?_)
    go_end0
    have hfin := d_close (G := L.take j ++ L.drop (j + 1)) H.out hbase hp HB3.out HID.out.symm (by
      rw [rowE_app]
      exact HO3.out)
    rw [show L.length - (j + 1) = 0 by have := HCK.out; omega] at hfin
    exact ⟨rfl, hfin⟩
  · rw [if_neg hck] at r3
    simp only [Option.map_some, add_spot, Nat.zero_add] at r3
    go_enter Tryz.func63, Tryz.ntmps63
    go_wp2_with (at_builtin; first | refine wpList_append_run rfl (.tmp 5) (.tmp 11) 71 rfl _ _ _ rfl rfl r1 ?_ | refine wpList_append_run rfl (.tmp 14) (.tmp 21) 71 rfl _ _ _ rfl rfl r3 ?_)
    go_end0
    have hfin := d_close (G := L.take j ++ L.drop (j + 1)) H.out hbase hp HB3.out HID.out.symm (by
      rw [rowE_app]
      exact HO3.out)
    exact ⟨rfl, hfin⟩
end Go.Proofs.YtlokhhjhckiloaaGreat.Of
/- offsets: the document's rows against the program's entries: plain words. No condition. -/
namespace Go.Proofs.YtlokhhjhckiloaaGreat.Of
open Go.RowKit Go.WideAt Go.Lib Go.Sort
set_option linter.unusedVariables false
/-- The document's rows: in their keys' order, the program's entries. -/
structure DL (L F : List KE) : Prop where
  rise : L.Pairwise fun a b => cfK a.1 b.1 < 0
  perm : L.Perm F
theorem cf_irr (k : KY) : ¬ cfK k k < 0 := by rw [(tri_key.zero k k).2 rfl]; omega
theorem DL.nil : DL [] [] := ⟨List.Pairwise.nil, List.Perm.refl _⟩
theorem DL.filter {L F : List KE} (h : DL L F) (p : KE → Bool) : DL (L.filter p) (F.filter p) := ⟨h.rise.sublist List.filter_sublist, h.perm.filter p⟩
theorem DL.uniq {L F : List KE} (h : DL L F) {i j : Nat} {x y : KE} (hi : L[i]? = some x) (hj : L[j]? = some y) (hk : x.1 = y.1) : i = j := by
  obtain ⟨h1, h2⟩ := List.getElem?_eq_some_iff.1 hi
  obtain ⟨h3, h4⟩ := List.getElem?_eq_some_iff.1 hj
  have hp := List.pairwise_iff_getElem.1 h.rise
  rcases Nat.lt_trichotomy i j with hl | hl | hl
  · have := hp i j h1 h3 hl
    rw [h2, h4, hk] at this
    exact absurd this (cf_irr _)
  · exact hl
  · have := hp j i h3 h1 hl
    rw [h2, h4, hk] at this
    exact absurd this (cf_irr _)
/-- All but the row of a key. -/
theorem DL.others {room : Int} {L F : List KE} (h : DL L F) (ho : FOk room F) {i : Nat} {x : KE} (hi : L[i]? = some x) : L.filter (fun e => !(kyB e.1 == kyB x.1)) = L.take i ++ L.drop (i + 1) := by
  obtain ⟨hil, hie⟩ := List.getElem?_eq_some_iff.1 hi
  have hkey : ∀ (j : Nat) (y : KE), L[j]? = some y → (kyB y.1 == kyB x.1) = decide (j = i) := fun j y hj => by
    by_cases e : j = i
    · subst e
      rw [hi] at hj
      injection hj with hj
      subst hj
      simp
    · rw [decide_eq_false e]
      simp only [beq_eq_false_iff_ne, ne_eq]
      intro hb
      have hx := ho.keys x (h.perm.mem_iff.1 (List.mem_of_getElem? hi))
      have hy := ho.keys y (h.perm.mem_iff.1 (List.mem_of_getElem? hj))
      exact e (h.uniq hj hi (kyB_inj hy hx hb))
  have e1 : L = L.take i ++ (x :: L.drop (i + 1)) := by
    have h1 := List.take_append_drop i L
    rw [List.drop_eq_getElem_cons hil, hie] at h1
    exact h1.symm
  have ht : (L.take i).filter (fun e => !(kyB e.1 == kyB x.1)) = L.take i := List.filter_eq_self.2 fun y hy => by
    obtain ⟨j, hj⟩ := List.getElem?_of_mem hy
    rw [List.getElem?_take] at hj
    split at hj
    · rename_i hji
      rw [hkey j y hj, decide_eq_false (by omega)]; rfl
    · cases hj
  have hd : (L.drop (i + 1)).filter (fun e => !(kyB e.1 == kyB x.1)) = L.drop (i + 1) := List.filter_eq_self.2 fun y hy => by
    obtain ⟨j, hj⟩ := List.getElem?_of_mem hy
    rw [List.getElem?_drop] at hj
    rw [hkey _ y hj, decide_eq_false (by omega)]; rfl
  rw [congrArg (List.filter _) e1, List.filter_append, ht, List.filter_cons_of_neg (by simp), hd]
theorem DL.cut {room : Int} {L F : List KE} (h : DL L F) (ho : FOk room F) {i : Nat} {x : KE} (hi : L[i]? = some x) : DL (L.take i ++ L.drop (i + 1)) (minK F (kyB x.1)) := by
  rw [← h.others ho hi]
  exact h.filter _
theorem DL.set {room : Int} {L F : List KE} (h : DL L F) (ho : FOk room F) {i : Nat} {x : KE} (hi : L[i]? = some x) (a : Int) : DL (L.set i (x.1, a)) (putK (x.1, a) F) := by
  obtain ⟨hil, hie⟩ := List.getElem?_eq_some_iff.1 hi
  constructor
  · have hm : (L.map (·.1)).Pairwise fun a b => cfK a b < 0 := List.pairwise_map.2 h.rise
    have hs : (L.set i (x.1, a)).map (·.1) = L.map (·.1) := by
      rw [List.map_set]
      apply List.ext_getElem?
      intro j
      rw [List.getElem?_set]
      split
      · rename_i e
        subst e
        simp [hil, hie]
      · rfl
    rw [← hs] at hm
    exact List.pairwise_map.1 hm
  · have e1 : L.set i (x.1, a) = L.take i ++ (x.1, a) :: L.drop (i + 1) := by rw [List.set_eq_take_append_cons_drop, if_pos hil]
    rw [e1]
    refine List.perm_middle.trans ?_
    refine List.Perm.trans ?_ (insK_perm (x.1, a) (minK F (kyB x.1))).symm
    exact List.Perm.cons _ (h.cut ho hi).perm
theorem DL.ins {room : Int} {L F : List KE} (h : DL L F) (ho : FOk room F) {k : KY} {a : Int} (hno : ∀ e ∈ L, e.1 ≠ k) (hk : KyOk k) {j : Nat} (hj : j ≤ L.length) (hlow : ∀ m y, m < j → L[m]? = some y → cfK y.1 k < 0) (hstop : ∀ y, L[j]? = some y → ¬ cfK y.1 k < 0) :
    DL (L.take j ++ (k, a) :: L.drop j) (putK (k, a) F) := by
  have hup : ∀ y ∈ L.drop j, cfK k y.1 < 0 := by
    intro y hy
    obtain ⟨m, hm⟩ := List.getElem?_of_mem hy
    rw [List.getElem?_drop] at hm
    have hjl : j < L.length := by have := (List.getElem?_eq_some_iff.1 hm).1; omega
    have hz := hstop L[j] (List.getElem?_eq_getElem hjl)
    have hkz : cfK k L[j].1 < 0 := by
      by_cases e : cfK L[j].1 k = 0
      · exact absurd ((tri_key.zero _ _).1 e) (hno _ (List.getElem_mem hjl))
      · exact (tri_key.turn _ _).2 (by omega)
    by_cases e : m = 0
    · subst e
      rw [Nat.add_zero] at hm
      obtain ⟨_, h2⟩ := List.getElem?_eq_some_iff.1 hm
      rw [← h2]; exact hkz
    · obtain ⟨h1, h2⟩ := List.getElem?_eq_some_iff.1 hm
      have := List.pairwise_iff_getElem.1 h.rise j (j + m) hjl h1 (by omega)
      rw [h2] at this
      exact tri_key.trans _ _ _ hkz this
  constructor
  · rw [List.pairwise_append]
    refine ⟨h.rise.sublist (List.take_sublist _ _), ?_, ?_⟩
    · rw [List.pairwise_cons]
      exact ⟨hup, h.rise.sublist (List.drop_sublist _ _)⟩
    · intro x hx y hy
      obtain ⟨m, hm⟩ := List.getElem?_of_mem hx
      rw [List.getElem?_take] at hm
      split at hm
      · rename_i hmj
        have hxk := hlow m x hmj hm
        rcases List.mem_cons.1 hy with rfl | hy
        · exact hxk
        · exact tri_key.trans _ _ _ hxk (hup y hy)
      · cases hm
  · refine List.perm_middle.trans ?_
    rw [List.take_append_drop]
    refine List.Perm.trans ?_ (insK_perm (k, a) (minK F (kyB k))).symm
    refine List.Perm.cons _ (h.perm.trans ?_)
    rw [minK_none]
    unfold ofK
    rw [List.find?_eq_none]
    intro e he hb
    exact hno e (h.perm.mem_iff.2 he) (kyB_inj (ho.keys e he) hk (by simpa using hb))
theorem DL.has {room : Int} {L F : List KE} (h : DL L F) (ho : FOk room F) {k : KY} (hk : KyOk k) : (ofK F (kyB k)).isSome = true ↔ ∃ e ∈ L, e.1 = k := by
  unfold ofK
  rw [List.find?_isSome]
  constructor
  · rintro ⟨e, he, hb⟩
    exact ⟨e, h.perm.mem_iff.2 he, kyB_inj (ho.keys e he) hk (by simpa using hb)⟩
  · rintro ⟨e, he, rfl⟩
    exact ⟨e, h.perm.mem_iff.1 he, by simp⟩
theorem DL.len {L F : List KE} (h : DL L F) : L.length = F.length := h.perm.length_eq
theorem DL.get {room : Int} {L F : List KE} (h : DL L F) (ho : FOk room F) {k : KY} (hk : KyOk k) : geD L k = geR F k := by
  rcases geD_find L k with ⟨h1, h2⟩ | ⟨i, e, h1, h2, h3, h4⟩
  · rw [h2]
    unfold geR
    cases hf : ofK F (kyB k) with
    | none => rfl
    | some e =>
      obtain ⟨e', he', hk'⟩ := (h.has ho hk).1 (by rw [hf]; rfl)
      obtain ⟨i, e2, h5, _⟩ := findD_some he' hk'
      rw [h5] at h1
      omega
  · rw [h4]
    unfold geR
    have hs := (h.has ho hk).2 ⟨e, List.mem_of_getElem? h2, h3⟩
    obtain ⟨e', he'⟩ := Option.isSome_iff_exists.1 hs
    rw [he']
    obtain ⟨hm, hb⟩ := ofK_mem he'
    have hk' := kyB_inj (ho.keys e' hm) hk hb
    obtain ⟨m, hm'⟩ := List.getElem?_of_mem (h.perm.mem_iff.2 hm)
    have := h.uniq h2 hm' (by rw [h3, hk'])
    subst this
    rw [h2] at hm'
    injection hm' with hm'
    rw [hm']
theorem DL.keys {room : Int} {L F : List KE} (h : DL L F) : keysOf F = L.map (·.1) := by
  unfold keysOf
  rw [← sortK_of_perm (h.perm.map (·.1))]
  have hm : (L.map (·.1)).Pairwise fun a b => cfK a b < 0 := List.pairwise_map.2 h.rise
  refine List.Perm.eq_of_pairwise (le := fun a b => (!(ltOf cfK) b a) = true) (fun a b _ _ h1 h2 => ?_) (sortK_sorted _) (hm.imp fun {a b} hab => ?_) (sortK_perm _)
  · simp only [Bool.not_eq_true'] at h1 h2
    exact partsK a b h2 h1
  · simp only [Bool.not_eq_true']
    unfold ltOf
    rw [decide_eq_false_iff_not]
    have := (tri_key.turn a b).1 hab
    omega
/-- A row with one cell set. -/
theorem row_set {w : World} {base e sz n c g t : Nat} {xs : List Value} (h : w.ownsRow base e sz (.slice (some ⟨g, 0, none⟩) n c) n xs) (ht : t < xs.length) (v : Value) : (w.setCell ⟨g, t, none⟩ v).ownsRow base e sz (.slice (some ⟨g, 0, none⟩) n c) n (xs.set t v) := by
  refine ⟨by rw [List.length_set]; exact h.1, ?_⟩
  rcases h.2 with ⟨hv, _⟩ | ⟨g', cap', cur, hv, hg, hh, h4, h5, h6, h7⟩
  · cases hv
  · injection hv with e1 _ e3
    injection e1 with e1
    injection e1 with e1
    subst e1 e3
    refine .inr ⟨g, c, cur.setIfInBounds t v, rfl, hg, by simp [World.setCell, Array.getElem?_modify, hh], h4, h5, by simpa using h6, ?_⟩
    rw [← h7, Array.toList_setIfInBounds, List.take_set]
theorem rowE_set {L : List KE} {i : Nat} {x : KE} (hi : L[i]? = some x) (a : Int) : rowE (L.set i (x.1, a)) = (rowE L).set (i * 4 + 3) (.int .i64 a) := by
  obtain ⟨hil, hie⟩ := List.getElem?_eq_some_iff.1 hi
  have e1 : L.set i (x.1, a) = L.take i ++ (x.1, a) :: L.drop (i + 1) := by rw [List.set_eq_take_append_cons_drop, if_pos hil]
  have e2 : rowE L = rowE (L.take i) ++ (rwC x ++ rowE (L.drop (i + 1))) := by
    rw [rowE_split L i, List.drop_eq_getElem_cons hil, hie]
    rfl
  have hlen : (rowE (L.take i)).length = i * 4 := by rw [rowE_len, List.length_take]; congr 1; omega
  rw [e1, e2, rowE_app, List.set_append_right _ _ (by rw [hlen]; omega), hlen, show i * 4 + 3 - i * 4 = 3 by omega]
  rfl
theorem wit_of {n l m : Int} (h : witB n l m = true) : l ≤ n ∧ n ≤ m := by unfold witB at h; simpa using h
theorem mayK_parts {k : KY} (h : mayK k = true) : (1 ≤ (k.g.size : Int) ∧ (k.g.size : Int) ≤ 100) ∧ (1 ≤ (k.t.size : Int) ∧ (k.t.size : Int) ≤ 100) ∧ 0 ≤ k.i ∧ k.i ≤ 15 := by
  unfold mayK at h
  simp only [Bool.and_eq_true] at h
  exact ⟨wit_of h.1, wit_of h.2.1, wit_of h.2.2⟩
end Go.Proofs.YtlokhhjhckiloaaGreat.Of
/- offsets: the document's Commit, by a contract. No condition but that they are not too many. -/
namespace Go.Proofs.YtlokhhjhckiloaaGreat.Of
open Go.RowKit Go.WideAt
set_option linter.unusedVariables false
/-- What a call on the document's table leaves, against the program's entries. -/
def GotS2 (W : World) (base p : Nat) (room : Int) (F : List KE) (v : Value) (e : Ending) (w' : World) : Prop := e = .returned v ∧ (∃ L A c, RdIs w' base p room L A c ∧ DL L F) ∧ KeepO badD W w' ∧ Below base W w'
theorem FdI.gots {W w : World} {base p c : Nat} {room : Int} {L F : List KE} {A : Option Addr} {k : KY} (h : FdI W base p room L A c k w) (hD : DL L F) (hb : base ≤ W.heap.size) (v : Value) : GotS2 W base p room F v (.returned v) w := ⟨rfl, ⟨L, A, c, h.is, hD⟩, KeepO.of_below h.below, h.below.mono hb⟩
set_option maxHeartbeats 16000000 in
set_option maxRecDepth 100000 in
theorem dcommit_c (base p c : Nat) (room : Int) (L F : List KE) (A : Option Addr) (k : KY) (a : Int) (W : World) (h : RdIs W base p room L A c) (hD : DL L F) (ho : FOk room F) (hbase : base ≤ W.heap.size) (hp : base ≤ p) (hg : k.g.size ≤ 140737488351232) (ht : k.t.size ≤ 140737488351232) :
    Calls Tryz.prog 32 #[.pointer (some ⟨p, 0, none⟩), .string k.g, .agg #[.string k.t, .int .i64 k.i], .int .i64 a] W (GotS2 W base p room (coS room F k a) (.int .i64 (coR room F k a))) := by
  have hl : L.length ≤ 1000000 := by rw [hD.len]; exact ho.many
  have hBA := (Below.refl W.heap.size W).alloc (Nat.le_refl _) (.cells #[.string k.t, .int .i64 k.i] 34)
  have HI0 := Lib.hid (show FdI W base p room L A c k _ from ⟨h.later hBA, Box.new _ _ _, hBA⟩)
  have HD := Lib.hid hD
  have HO := Lib.hid ho
  have HBA := Lib.hid hbase
  have HP := Lib.hid hp
  have ck := fun w => dkey_c k hg ht w
  have cf := fun w (h : RdIs w base p room L A c) => dfind_c base p c room L A k w h hl
  have q0 := (HI0.out.pb.cell 0).trans (show _ = some (Value.string k.t) from rfl)
  have q1 := (HI0.out.pb.cell 1).trans (show _ = some (Value.int .i64 k.i) from rfl)
  by_cases hbad : (mayK k && witB a 0 1099511627776) = true
  case neg =>
    have HV : Hid (coR room F k a = 1 ∧ coS room F k a = F) := Lib.hid (by
      have : coR room F k a = 1 := by unfold coR; rw [if_neg hbad]
      refine ⟨this, ?_⟩
      unfold coS
      rw [this]; rfl)
    clear h hD ho hbase hp hg ht hBA cf
    cases hm : mayK k with
    | false =>
      rw [hm] at ck
      clear hbad hm
      go_enter Tryz.func32, Tryz.ntmps32
      go_wp2_with fail
      with_reducible refine (ck _).mono ?_
      rintro en w1 ⟨rfl, hb⟩
      have HI1 := Lib.hid (HI0.out.later hb)
      clear hb ck HI0 q0 q1
      go_wp2_with fail
      go_ret
      rw [HV.out.1, HV.out.2]
      exact HI1.out.gots HD.out HBA.out _
    | true =>
      rw [hm] at ck hbad
      have hw : ¬ (0 ≤ a ∧ a ≤ 1099511627776) := by
        intro e
        apply hbad
        unfold witB
        rw [decide_eq_true e.1, decide_eq_true e.2]; rfl
      clear hbad hm
      by_cases ha : a < 0
      · clear hw
        go_enter Tryz.func32, Tryz.ntmps32
        go_wp2_with fail
        with_reducible refine (ck _).mono ?_
        rintro en w1 ⟨rfl, hb⟩
        have HI1 := Lib.hid (HI0.out.later hb)
        clear hb ck HI0 q0 q1
        go_wp2_with fail
        go_ret
        rw [HV.out.1, HV.out.2]
        exact HI1.out.gots HD.out HBA.out _
      · have ha2 : 1099511627776 < a := by omega
        clear hw
        go_enter Tryz.func32, Tryz.ntmps32
        go_wp2_with fail
        with_reducible refine (ck _).mono ?_
        rintro en w1 ⟨rfl, hb⟩
        have HI1 := Lib.hid (HI0.out.later hb)
        clear hb ck HI0 q0 q1
        go_wp2_with fail
        go_ret
        rw [HV.out.1, HV.out.2]
        exact HI1.out.gots HD.out HBA.out _
  case pos =>
    simp only [Bool.and_eq_true] at hbad
    obtain ⟨hm, hw⟩ := hbad
    have ha := wit_of hw
    have hky := mayK_ok hm
    have HKY := Lib.hid hky
    rw [hm] at ck
    have hco : coR room F k a = if (ofK F (kyB k)).isSome = true ∨ (F.length : Int) < room then 0 else 5 := by
      unfold coR
      rw [hm, hw, if_pos (show (true && true) = true from rfl)]
      simp only [Bool.or_eq_true, decide_eq_true_eq]
    have hhas := hD.has ho hky
    rcases geD_find L k with ⟨h1, _⟩ | ⟨i, e, h1, h2, h3, _⟩
    · have hno : ∀ e ∈ L, e.1 ≠ k := fun e he hk => by
        obtain ⟨i, e2, h5, _⟩ := findD_some he hk
        rw [h5] at h1
        omega
      have hns : ¬ (ofK F (kyB k)).isSome = true := fun hs => by
        obtain ⟨e, he, hk⟩ := hhas.1 hs
        exact hno e he hk
      have HNO := Lib.hid hno
      rw [h1] at cf
      by_cases hroom : (F.length : Int) < room
      · have HV : Hid (coR room F k a = 0 ∧ coS room F k a = putK (k, a) F) := Lib.hid (by
          have : coR room F k a = 0 := by rw [hco, if_pos (.inr hroom)]
          refine ⟨this, ?_⟩
          unfold coS
          rw [if_pos this])
        have hroom2 : (L.length : Int) < room := by rw [hD.len]; exact hroom
        clear hco hhas h1 hno hns hroom hD ho hbase hp hg ht hBA h hky hm hw
        go_enter Tryz.func32, Tryz.ntmps32
        go_wp2_with fail
        with_reducible refine (ck _).mono ?_
        rintro en w1 ⟨rfl, hb⟩
        have HI1 := Lib.hid (HI0.out.later hb)
        clear hb ck HI0 q0 q1
        have q0 := (HI1.out.pb.cell 0).trans (show _ = some (Value.string k.t) from rfl)
        have q1 := (HI1.out.pb.cell 1).trans (show _ = some (Value.int .i64 k.i) from rfl)
        have cf1 := cf _ HI1.out.is
        clear cf
        go_wp2_with fail
        with_reducible refine cf1.mono ?_
        rintro en w2 ⟨rfl, hb⟩
        have HI2 := Lib.hid (HI1.out.later hb)
        clear hb cf1 HI1 q0 q1
        obtain ⟨c0, c1, cl⟩ := HI2.out.is.cells
        obtain ⟨n, hn⟩ : ∃ n, L.length = n := ⟨_, rfl⟩
        have HN := Lib.hid hn
        rw [hn] at hl hroom2 c1
        clear hn
        go_wp2_with fail
        go_quiet (fail)
        have HI3 := Lib.hid (HI2.out.later (below_drewN (Below.refl _ w2) nq))
        generalize w2.drewN nq = w3 at *
        clear HI2 c0 c1 cl
        go_wp2_with fail
        clear hroom2
        go_loopw [10] (fun i wr => ∃ j : Nat, i = .int .i64 j ∧ j ≤ n ∧ (∀ m y, m < j → L[m]? = some y → cfK y.1 k < 0) ∧ FdI W base p room L A c k wr) (fun i _ => n - (intOf i).toNat)
        case atStart => exact ⟨0, rfl, Nat.zero_le _, fun m y hm => by omega, HI3.out⟩
        case round =>
          obtain ⟨j, rfl, hj, hlow, hI⟩ := hrel
          have HLOW := Lib.hid hlow
          have HI := Lib.hid hI
          clear hlow hI HI3
          obtain ⟨c0, c1, cl⟩ := HI.out.is.cells
          rw [HN.out] at c1
          have q0 := (HI.out.pb.cell 0).trans (show _ = some (Value.string k.t) from rfl)
          have q1 := (HI.out.pb.cell 1).trans (show _ = some (Value.int .i64 k.i) from rfl)
          by_cases hjn : j < n
          · obtain ⟨x, hx⟩ : ∃ x, L[j]? = some x := ⟨_, List.getElem?_eq_getElem (by rw [HN.out]; exact hjn)⟩
            have hrow := HI.out.is.row
            rw [HN.out] at hrow
            obtain ⟨gg, rfl, _, z0, z1, z2, z3, _, hgl, hc⟩ := rd_cell HN.out hrow hx
            have hK0 : (0 : Int) ≤ (j : Int) := by omega
            have hK1 : (j : Int) < (n : Int) := by omega
            have HXX := Lib.hid hx
            have ca := fun w => ahead_c x k w
            clear hx hrow
            cases hcf : decide (cfK x.1 k < 0) with
            | true =>
              rw [hcf] at ca
              have HCF : Hid (cfK x.1 k < 0) := Lib.hid (of_decide_eq_true hcf)
              clear hcf
              go_wp2_with fail
              have hS0 : wr.drew.cell? ⟨p, 1, none⟩ = some (.slice (some ⟨gg, 0, none⟩) n c) ∧ wr.drew.cell? ⟨gg, j * 4, none⟩ = some (.string x.1.g) ∧ wr.drew.cell? ⟨gg, j * 4 + 1, none⟩ = some (.string x.1.t) ∧ wr.drew.cell? ⟨gg, j * 4 + 2, none⟩ = some (.int .i64 x.1.i) ∧ wr.drew.cell? ⟨gg, j * 4 + 3, none⟩ = some (.int .i64 x.2) ∧ wr.drew.cell? ⟨W.heap.size, 0, none⟩ = some (.string k.t) ∧ wr.drew.cell? ⟨W.heap.size, 1, none⟩ = some (.int .i64 k.i) := ⟨c1, z0, z1, z2, z3, q0, q1⟩
              refine wp_region_held_drew (S := (fun w => w.cell? ⟨p, 1, none⟩ = some (.slice (some ⟨gg, 0, none⟩) n c) ∧ w.cell? ⟨gg, j * 4, none⟩ = some (.string x.1.g) ∧ w.cell? ⟨gg, j * 4 + 1, none⟩ = some (.string x.1.t) ∧ w.cell? ⟨gg, j * 4 + 2, none⟩ = some (.int .i64 x.1.i) ∧ w.cell? ⟨gg, j * 4 + 3, none⟩ = some (.int .i64 x.2) ∧ w.cell? ⟨W.heap.size, 0, none⟩ = some (.string k.t) ∧ w.cell? ⟨W.heap.size, 1, none⟩ = some (.int .i64 k.i))) (by kernel_rfl) hS0 (fun hHeld => ?_)
              refine takeW (i := 0) (v := ?v1) rfl (by kernel_rfl) (by kernel_rfl) (by kernel_rfl) (fun _ _ _ h => h) (by kernel_rfl) hHeld ?hy1 ?rest1
              case hy1 => (intro w hSw; (try dsimp only at hSw); go_simp; (try with_reducible rfl))
              try simp only [Act.put, List.setIfInBounds_toArray, List.set_cons_zero, List.set_cons_succ]
              refine takeW (i := 1) (v := ?v2) rfl (by kernel_rfl) (by kernel_rfl) (by kernel_rfl) (fun _ _ _ h => h) (by kernel_rfl) hHeld ?hy2 ?rest2
              case hy2 => (intro w hSw; (try dsimp only at hSw); go_simp; (try with_reducible rfl))
              try simp only [Act.put, List.setIfInBounds_toArray, List.set_cons_zero, List.set_cons_succ]
              refine takeW (i := 2) (v := ?v3) rfl (by kernel_rfl) (by kernel_rfl) (by kernel_rfl) (fun _ _ _ h => h) (by kernel_rfl) hHeld ?hy3 ?rest3
              case hy3 => (intro w hSw; (try dsimp only at hSw); go_simp; (try with_reducible rfl))
              try simp only [Act.put, List.setIfInBounds_toArray, List.set_cons_zero, List.set_cons_succ]
              refine takeW (i := 3) (v := ?v4) rfl (by kernel_rfl) (by kernel_rfl) (by kernel_rfl) (fun _ _ _ h => h) (by kernel_rfl) hHeld ?hy4 ?rest4
              case hy4 => (intro w hSw; (try dsimp only at hSw); go_simp; (try with_reducible rfl))
              try simp only [Act.put, List.setIfInBounds_toArray, List.set_cons_zero, List.set_cons_succ]
              refine takeW (i := 4) (v := ?v5) rfl (by kernel_rfl) (by kernel_rfl) (by kernel_rfl) (fun _ _ _ h => h) (by kernel_rfl) hHeld ?hy5 ?rest5
              case hy5 => (intro w hSw; (try dsimp only at hSw); go_simp; (try with_reducible rfl))
              try simp only [Act.put, List.setIfInBounds_toArray, List.set_cons_zero, List.set_cons_succ]
              refine takeW (i := 5) (v := ?v6) rfl (by kernel_rfl) (by kernel_rfl) (by kernel_rfl) (fun _ _ _ h => h) (by kernel_rfl) hHeld ?hy6 ?rest6
              case hy6 => (intro w hSw; (try dsimp only at hSw); go_simp; (try with_reducible rfl))
              try simp only [Act.put, List.setIfInBounds_toArray, List.set_cons_zero, List.set_cons_succ]
              refine takeW (i := 6) (v := ?v7) rfl (by kernel_rfl) (by kernel_rfl) (by kernel_rfl) (fun _ _ _ h => h) (by kernel_rfl) hHeld ?hy7 ?rest7
              case hy7 => (intro w hSw; (try dsimp only at hSw); go_simp; (try with_reducible rfl))
              try simp only [Act.put, List.setIfInBounds_toArray, List.set_cons_zero, List.set_cons_succ]
              refine takeW (i := 7) (v := ?v8) rfl (by kernel_rfl) (by kernel_rfl) (by kernel_rfl) (fun _ _ _ h => h) (by kernel_rfl) hHeld ?hy8 ?rest8
              case hy8 => (intro w hSw; (try dsimp only at hSw); go_simp; (try with_reducible rfl))
              try simp only [Act.put, List.setIfInBounds_toArray, List.set_cons_zero, List.set_cons_succ]
              refine takeW (i := 8) (v := ?v9) rfl (by kernel_rfl) (by kernel_rfl) (by kernel_rfl) (fun _ _ _ h => h) (by kernel_rfl) hHeld ?hy9 ?rest9
              case hy9 => (intro w hSw; (try dsimp only at hSw); go_simp; (try with_reducible rfl))
              try simp only [Act.put, List.setIfInBounds_toArray, List.set_cons_zero, List.set_cons_succ]
              refine takeW (i := 9) (v := ?v10) rfl (by kernel_rfl) (by kernel_rfl) (by kernel_rfl) (fun _ _ _ h => h) (by kernel_rfl) hHeld ?hy10 ?rest10
              case hy10 => (intro w hSw; (try dsimp only at hSw); go_simp; (try with_reducible rfl))
              try simp only [Act.put, List.setIfInBounds_toArray, List.set_cons_zero, List.set_cons_succ]
              refine takeW (i := 10) (v := ?v11) rfl (by kernel_rfl) (by kernel_rfl) (by kernel_rfl) (fun _ _ _ h => h) (by kernel_rfl) hHeld ?hy11 ?rest11
              case hy11 => (intro w hSw; (try dsimp only at hSw); go_simp; (try with_reducible rfl))
              try simp only [Act.put, List.setIfInBounds_toArray, List.set_cons_zero, List.set_cons_succ]
              refine takeW (i := 11) (v := ?v12) rfl (by kernel_rfl) (by kernel_rfl) (by kernel_rfl) (fun _ _ _ h => h) (by kernel_rfl) hHeld ?hy12 ?rest12
              case hy12 => (intro w hSw; (try dsimp only at hSw); go_simp; (try with_reducible rfl))
              try simp only [Act.put, List.setIfInBounds_toArray, List.set_cons_zero, List.set_cons_succ]
              refine takeW (i := 12) (v := ?v13) rfl (by kernel_rfl) (by kernel_rfl) (by kernel_rfl) (fun _ _ _ h => h) (by kernel_rfl) hHeld ?hy13 ?rest13
              case hy13 => (intro w hSw; (try dsimp only at hSw); go_simp; (try with_reducible rfl))
              try simp only [Act.put, List.setIfInBounds_toArray, List.set_cons_zero, List.set_cons_succ]
              refine takeW (i := 13) (v := ?v14) rfl (by kernel_rfl) (by kernel_rfl) (by kernel_rfl) (fun _ _ _ h => h) (by kernel_rfl) hHeld ?hy14 ?rest14
              case hy14 => (intro w hSw; (try dsimp only at hSw); go_simp; (try with_reducible rfl))
              try simp only [Act.put, List.setIfInBounds_toArray, List.set_cons_zero, List.set_cons_succ]
              refine takeW (i := 14) (v := ?v15) rfl (by kernel_rfl) (by kernel_rfl) (by kernel_rfl) (fun _ _ _ h => h) (by kernel_rfl) hHeld ?hy15 ?rest15
              case hy15 => (intro w hSw; (try dsimp only at hSw); go_simp; (try with_reducible rfl))
              try simp only [Act.put, List.setIfInBounds_toArray, List.set_cons_zero, List.set_cons_succ]
              refine takeW (i := 15) (v := ?v16) rfl (by kernel_rfl) (by kernel_rfl) (by kernel_rfl) (fun _ _ _ h => h) (by kernel_rfl) hHeld ?hy16 ?rest16
              case hy16 => (intro w hSw; (try dsimp only at hSw); go_simp; (try with_reducible rfl))
              try simp only [Act.put, List.setIfInBounds_toArray, List.set_cons_zero, List.set_cons_succ]
              refine takeW (i := 16) (v := ?v17) rfl (by kernel_rfl) (by kernel_rfl) (by kernel_rfl) (fun _ _ _ h => h) (by kernel_rfl) hHeld ?hy17 ?rest17
              case hy17 => (intro w hSw; (try dsimp only at hSw); go_simp; (try with_reducible rfl))
              try simp only [Act.put, List.setIfInBounds_toArray, List.set_cons_zero, List.set_cons_succ]
              refine wpAnyH_ready (rs := [17]) (by kernel_rfl) (by simp) ?_
              refine consL rfl (by kernel_rfl) (fun K hK => ?_) AllReadyH.nil
              go_simp
              with_reducible refine (ca _).mono ?_
              rintro en wx ⟨rfl, hb⟩
              have HX := Lib.hid ((HI.out.later (Below.refl _ _).drew).later hb)
              have hrx := HX.out.is.row
              rw [HN.out] at hrx
              obtain ⟨g8, hA8, _, v0, v1, v2, v3, _, hg8, _⟩ := rd_cell HN.out hrx HXX.out
              injection hA8 with hA8
              injection hA8 with e1
              subst e1
              have v4 := (HX.out.is.cells).2.1
              rw [HN.out] at v4
              have v5 := (HX.out.pb.cell 0).trans (show _ = some (Value.string k.t) from rfl)
              have v6 := (HX.out.pb.cell 1).trans (show _ = some (Value.int .i64 k.i) from rfl)
              clear hb hrx
              refine hK.out _ _ (⟨v4, v0, v1, v2, v3, v5, v6⟩) (fun hHeld => ?_)
              clear hK K
              try simp only [Act.put, List.setIfInBounds_toArray, List.set_cons_zero, List.set_cons_succ]
              refine takeW (i := 18) (v := ?v18) rfl (by kernel_rfl) (by kernel_rfl) (by kernel_rfl) (fun _ _ _ h => h) (by kernel_rfl) hHeld ?hy18 ?rest18
              case hy18 => (intro w hSw; (try dsimp only at hSw); go_simp; (try with_reducible rfl))
              try simp only [Act.put, List.setIfInBounds_toArray, List.set_cons_zero, List.set_cons_succ]
              refine wpAnyH_done (by kernel_rfl) ?_ _
              go_wp2_with fail
              exact ⟨⟨j + 1, by go_num, hjn, fun m y hm hy => by
                rcases Nat.lt_succ_iff_lt_or_eq.1 hm with h | h
                · exact HLOW.out m y h hy
                · subst h
                  have := HXX.out
                  rw [hy] at this
                  injection this with this
                  rw [this]; exact HCF.out, HX.out⟩, by simp [intOf]; omega⟩
            | false =>
              rw [hcf] at ca
              have HSTOP : Hid (∀ y, L[j]? = some y → ¬ cfK y.1 k < 0) := Lib.hid (fun y hy => by
                have := HXX.out
                rw [hy] at this
                injection this with this
                rw [this]; exact of_decide_eq_false hcf)
              clear hcf
              go_wp2_with fail
              have hS0 : wr.drew.cell? ⟨p, 1, none⟩ = some (.slice (some ⟨gg, 0, none⟩) n c) ∧ wr.drew.cell? ⟨gg, j * 4, none⟩ = some (.string x.1.g) ∧ wr.drew.cell? ⟨gg, j * 4 + 1, none⟩ = some (.string x.1.t) ∧ wr.drew.cell? ⟨gg, j * 4 + 2, none⟩ = some (.int .i64 x.1.i) ∧ wr.drew.cell? ⟨gg, j * 4 + 3, none⟩ = some (.int .i64 x.2) ∧ wr.drew.cell? ⟨W.heap.size, 0, none⟩ = some (.string k.t) ∧ wr.drew.cell? ⟨W.heap.size, 1, none⟩ = some (.int .i64 k.i) := ⟨c1, z0, z1, z2, z3, q0, q1⟩
              refine wp_region_held_drew (S := (fun w => w.cell? ⟨p, 1, none⟩ = some (.slice (some ⟨gg, 0, none⟩) n c) ∧ w.cell? ⟨gg, j * 4, none⟩ = some (.string x.1.g) ∧ w.cell? ⟨gg, j * 4 + 1, none⟩ = some (.string x.1.t) ∧ w.cell? ⟨gg, j * 4 + 2, none⟩ = some (.int .i64 x.1.i) ∧ w.cell? ⟨gg, j * 4 + 3, none⟩ = some (.int .i64 x.2) ∧ w.cell? ⟨W.heap.size, 0, none⟩ = some (.string k.t) ∧ w.cell? ⟨W.heap.size, 1, none⟩ = some (.int .i64 k.i))) (by kernel_rfl) hS0 (fun hHeld => ?_)
              refine takeW (i := 0) (v := ?v19) rfl (by kernel_rfl) (by kernel_rfl) (by kernel_rfl) (fun _ _ _ h => h) (by kernel_rfl) hHeld ?hy19 ?rest19
              case hy19 => (intro w hSw; (try dsimp only at hSw); go_simp; (try with_reducible rfl))
              try simp only [Act.put, List.setIfInBounds_toArray, List.set_cons_zero, List.set_cons_succ]
              refine takeW (i := 1) (v := ?v20) rfl (by kernel_rfl) (by kernel_rfl) (by kernel_rfl) (fun _ _ _ h => h) (by kernel_rfl) hHeld ?hy20 ?rest20
              case hy20 => (intro w hSw; (try dsimp only at hSw); go_simp; (try with_reducible rfl))
              try simp only [Act.put, List.setIfInBounds_toArray, List.set_cons_zero, List.set_cons_succ]
              refine takeW (i := 2) (v := ?v21) rfl (by kernel_rfl) (by kernel_rfl) (by kernel_rfl) (fun _ _ _ h => h) (by kernel_rfl) hHeld ?hy21 ?rest21
              case hy21 => (intro w hSw; (try dsimp only at hSw); go_simp; (try with_reducible rfl))
              try simp only [Act.put, List.setIfInBounds_toArray, List.set_cons_zero, List.set_cons_succ]
              refine takeW (i := 3) (v := ?v22) rfl (by kernel_rfl) (by kernel_rfl) (by kernel_rfl) (fun _ _ _ h => h) (by kernel_rfl) hHeld ?hy22 ?rest22
              case hy22 => (intro w hSw; (try dsimp only at hSw); go_simp; (try with_reducible rfl))
              try simp only [Act.put, List.setIfInBounds_toArray, List.set_cons_zero, List.set_cons_succ]
              refine takeW (i := 4) (v := ?v23) rfl (by kernel_rfl) (by kernel_rfl) (by kernel_rfl) (fun _ _ _ h => h) (by kernel_rfl) hHeld ?hy23 ?rest23
              case hy23 => (intro w hSw; (try dsimp only at hSw); go_simp; (try with_reducible rfl))
              try simp only [Act.put, List.setIfInBounds_toArray, List.set_cons_zero, List.set_cons_succ]
              refine takeW (i := 5) (v := ?v24) rfl (by kernel_rfl) (by kernel_rfl) (by kernel_rfl) (fun _ _ _ h => h) (by kernel_rfl) hHeld ?hy24 ?rest24
              case hy24 => (intro w hSw; (try dsimp only at hSw); go_simp; (try with_reducible rfl))
              try simp only [Act.put, List.setIfInBounds_toArray, List.set_cons_zero, List.set_cons_succ]
              refine takeW (i := 6) (v := ?v25) rfl (by kernel_rfl) (by kernel_rfl) (by kernel_rfl) (fun _ _ _ h => h) (by kernel_rfl) hHeld ?hy25 ?rest25
              case hy25 => (intro w hSw; (try dsimp only at hSw); go_simp; (try with_reducible rfl))
              try simp only [Act.put, List.setIfInBounds_toArray, List.set_cons_zero, List.set_cons_succ]
              refine takeW (i := 7) (v := ?v26) rfl (by kernel_rfl) (by kernel_rfl) (by kernel_rfl) (fun _ _ _ h => h) (by kernel_rfl) hHeld ?hy26 ?rest26
              case hy26 => (intro w hSw; (try dsimp only at hSw); go_simp; (try with_reducible rfl))
              try simp only [Act.put, List.setIfInBounds_toArray, List.set_cons_zero, List.set_cons_succ]
              refine takeW (i := 8) (v := ?v27) rfl (by kernel_rfl) (by kernel_rfl) (by kernel_rfl) (fun _ _ _ h => h) (by kernel_rfl) hHeld ?hy27 ?rest27
              case hy27 => (intro w hSw; (try dsimp only at hSw); go_simp; (try with_reducible rfl))
              try simp only [Act.put, List.setIfInBounds_toArray, List.set_cons_zero, List.set_cons_succ]
              refine takeW (i := 9) (v := ?v28) rfl (by kernel_rfl) (by kernel_rfl) (by kernel_rfl) (fun _ _ _ h => h) (by kernel_rfl) hHeld ?hy28 ?rest28
              case hy28 => (intro w hSw; (try dsimp only at hSw); go_simp; (try with_reducible rfl))
              try simp only [Act.put, List.setIfInBounds_toArray, List.set_cons_zero, List.set_cons_succ]
              refine takeW (i := 10) (v := ?v29) rfl (by kernel_rfl) (by kernel_rfl) (by kernel_rfl) (fun _ _ _ h => h) (by kernel_rfl) hHeld ?hy29 ?rest29
              case hy29 => (intro w hSw; (try dsimp only at hSw); go_simp; (try with_reducible rfl))
              try simp only [Act.put, List.setIfInBounds_toArray, List.set_cons_zero, List.set_cons_succ]
              refine takeW (i := 11) (v := ?v30) rfl (by kernel_rfl) (by kernel_rfl) (by kernel_rfl) (fun _ _ _ h => h) (by kernel_rfl) hHeld ?hy30 ?rest30
              case hy30 => (intro w hSw; (try dsimp only at hSw); go_simp; (try with_reducible rfl))
              try simp only [Act.put, List.setIfInBounds_toArray, List.set_cons_zero, List.set_cons_succ]
              refine takeW (i := 12) (v := ?v31) rfl (by kernel_rfl) (by kernel_rfl) (by kernel_rfl) (fun _ _ _ h => h) (by kernel_rfl) hHeld ?hy31 ?rest31
              case hy31 => (intro w hSw; (try dsimp only at hSw); go_simp; (try with_reducible rfl))
              try simp only [Act.put, List.setIfInBounds_toArray, List.set_cons_zero, List.set_cons_succ]
              refine takeW (i := 13) (v := ?v32) rfl (by kernel_rfl) (by kernel_rfl) (by kernel_rfl) (fun _ _ _ h => h) (by kernel_rfl) hHeld ?hy32 ?rest32
              case hy32 => (intro w hSw; (try dsimp only at hSw); go_simp; (try with_reducible rfl))
              try simp only [Act.put, List.setIfInBounds_toArray, List.set_cons_zero, List.set_cons_succ]
              refine takeW (i := 14) (v := ?v33) rfl (by kernel_rfl) (by kernel_rfl) (by kernel_rfl) (fun _ _ _ h => h) (by kernel_rfl) hHeld ?hy33 ?rest33
              case hy33 => (intro w hSw; (try dsimp only at hSw); go_simp; (try with_reducible rfl))
              try simp only [Act.put, List.setIfInBounds_toArray, List.set_cons_zero, List.set_cons_succ]
              refine takeW (i := 15) (v := ?v34) rfl (by kernel_rfl) (by kernel_rfl) (by kernel_rfl) (fun _ _ _ h => h) (by kernel_rfl) hHeld ?hy34 ?rest34
              case hy34 => (intro w hSw; (try dsimp only at hSw); go_simp; (try with_reducible rfl))
              try simp only [Act.put, List.setIfInBounds_toArray, List.set_cons_zero, List.set_cons_succ]
              refine takeW (i := 16) (v := ?v35) rfl (by kernel_rfl) (by kernel_rfl) (by kernel_rfl) (fun _ _ _ h => h) (by kernel_rfl) hHeld ?hy35 ?rest35
              case hy35 => (intro w hSw; (try dsimp only at hSw); go_simp; (try with_reducible rfl))
              try simp only [Act.put, List.setIfInBounds_toArray, List.set_cons_zero, List.set_cons_succ]
              refine wpAnyH_ready (rs := [17]) (by kernel_rfl) (by simp) ?_
              refine consL rfl (by kernel_rfl) (fun K hK => ?_) AllReadyH.nil
              go_simp
              with_reducible refine (ca _).mono ?_
              rintro en wx ⟨rfl, hb⟩
              have HX := Lib.hid ((HI.out.later (Below.refl _ _).drew).later hb)
              have hrx := HX.out.is.row
              rw [HN.out] at hrx
              obtain ⟨g8, hA8, _, v0, v1, v2, v3, _, hg8, _⟩ := rd_cell HN.out hrx HXX.out
              injection hA8 with hA8
              injection hA8 with e1
              subst e1
              have v4 := (HX.out.is.cells).2.1
              rw [HN.out] at v4
              have v5 := (HX.out.pb.cell 0).trans (show _ = some (Value.string k.t) from rfl)
              have v6 := (HX.out.pb.cell 1).trans (show _ = some (Value.int .i64 k.i) from rfl)
              clear hb hrx
              refine hK.out _ _ (⟨v4, v0, v1, v2, v3, v5, v6⟩) (fun hHeld => ?_)
              clear hK K
              try simp only [Act.put, List.setIfInBounds_toArray, List.set_cons_zero, List.set_cons_succ]
              refine takeW (i := 18) (v := ?v36) rfl (by kernel_rfl) (by kernel_rfl) (by kernel_rfl) (fun _ _ _ h => h) (by kernel_rfl) hHeld ?hy36 ?rest36
              case hy36 => (intro w hSw; (try dsimp only at hSw); go_simp; (try with_reducible rfl))
              try simp only [Act.put, List.setIfInBounds_toArray, List.set_cons_zero, List.set_cons_succ]
              refine wpAnyH_done (by kernel_rfl) ?_ _
              clear c0 c1 cl q0 q1 z0 z1 z2 z3 hgl HI hS0 hHeld v0 v1 v2 v3 v4 v5 v6 hg8 ca
              have HINS : Hid (DL (L.take j ++ (k, a) :: L.drop j) (putK (k, a) F)) := Lib.hid (HD.out.ins HO.out HNO.out HKY.out (by rw [HN.out]; exact hj) HLOW.out (fun y hy => by have := HSTOP.out y hy; omega))
              have HLEN : Hid ((L.take j ++ (k, a) :: L.drop j).length = n + 1) := Lib.hid (by rw [List.length_append, List.length_cons, List.length_take, List.length_drop, HN.out]; omega)
              have hbx : base ≤ wx.heap.size := by have := HX.out.below.size; have := HBA.out; omega
              have hrow := HX.out.is.row
              rw [HN.out, rowE_split L j] at hrow
              obtain ⟨A1, d1, w1', A2, d2, w2', A3, d3, w3', r1, r2, r3, b1, b2, b3, o3⟩ := ins3 (t := 71) (by decide) Tryz.underlying71 rwInfo rfl (by decide) hrow (k := j) (m := n - j) (by rw [rowE_len, List.length_take, HN.out]; congr 1; omega) (by rw [rowE_len, List.length_drop, HN.out]) (by omega) (by rw [← rowE_split]; exact rowE_one L) (by omega) #[.string k.g, .string k.t, .int .i64 k.i, .int .i64 a] rfl (by simp [Value.oneCell'])
              have hjn : (j : Int) ≤ (n : Int) := by omega
              have hj0 : (0 : Int) ≤ (j : Int) := by omega
              have hcap : n ≤ c := hc
              have hjc : (j : Int) ≤ (c : Int) := by omega
              have HB3 := Lib.hid b3
              have HO3 := Lib.hid o3
              obtain ⟨c0, c1, cl⟩ := HX.out.is.cells
              rw [HN.out] at c1
              have x11 := (HX.out.is.box.later b1).cell 1 |>.trans (show _ = some (Value.slice _ L.length c) from rfl)
              have x21 := (HX.out.is.box.later b2).cell 1 |>.trans (show _ = some (Value.slice _ L.length c) from rfl)
              have x31 := (HX.out.is.box.later b3).frozen 1
              have x33 := (HX.out.is.box.later b3).cell 1 |>.trans (show _ = some (Value.slice _ L.length c) from rfl)
              rw [HN.out] at x11 x21 x33
              have y0 := (HX.out.pb.later b1).cell 0 |>.trans (show _ = some (Value.string k.t) from rfl)
              have y1 := (HX.out.pb.later b1).cell 1 |>.trans (show _ = some (Value.int .i64 k.i) from rfl)
              have p1 : p < w1'.heap.size := Nat.lt_of_lt_of_le cl b1.size
              have p2 : p < w2'.heap.size := Nat.lt_of_lt_of_le cl b2.size
              have p3 : p < w3'.heap.size := Nat.lt_of_lt_of_le cl b3.size
              clear hrow b1 b2 b3 o3
              unfold sliced at r3
              have hck : ¬ c = j := by omega
              rw [if_neg hck] at r3
              simp only [Option.map_some, add_spot, Nat.zero_add] at r3
              go_wp2_with (at_builtin; first | refine wpList_append_run rfl (.tmp 69) (.tmp 75) 71 rfl _ _ _ rfl rfl r1 ?_ | refine wpList_append_run rfl (.tmp 77) (.tmp 82) 71 rfl _ _ _ rfl rfl r2 ?_ | refine wpList_append_run rfl (.tmp 85) (.tmp 91) 71 rfl _ _ _ rfl rfl r3 ?_)
              go_ret
              have hfin := d_close (G := L.take j ++ (k, a) :: L.drop j) HX.out.is hbx HP.out HB3.out HLEN.out (by
                rw [rowE_app]
                exact HO3.out)
              rw [HV.out.1, HV.out.2]
              obtain ⟨⟨A9, c9, h9⟩, hk9, hb9⟩ := hfin
              exact ⟨rfl, ⟨_, A9, c9, h9, HINS.out⟩, (KeepO.of_below HX.out.below).trans hk9, (HX.out.below.mono HBA.out).trans hb9⟩
          · have hjn' : ¬ (j : Int) < (n : Int) := by omega
            have HSTOP : Hid (∀ y, L[j]? = some y → ¬ cfK y.1 k < 0) := Lib.hid (fun y hy => by
              have := (List.getElem?_eq_some_iff.1 hy).1
              rw [HN.out] at this
              omega)
            go_wp2_with fail
            have hS0 : wr.drew.cell? ⟨p, 1, none⟩ = some (.slice A n c) := c1
            refine wp_region_held_drew (S := (fun w => w.cell? ⟨p, 1, none⟩ = some (.slice A n c))) (by kernel_rfl) hS0 (fun hHeld => ?_)
            refine takeW (i := 0) (v := ?v37) rfl (by kernel_rfl) (by kernel_rfl) (by kernel_rfl) (fun _ _ _ h => h) (by kernel_rfl) hHeld ?hy37 ?rest37
            case hy37 => (intro w hSw; (try dsimp only at hSw); go_simp; (try with_reducible rfl))
            try simp only [Act.put, List.setIfInBounds_toArray, List.set_cons_zero, List.set_cons_succ]
            refine takeW (i := 1) (v := ?v38) rfl (by kernel_rfl) (by kernel_rfl) (by kernel_rfl) (fun _ _ _ h => h) (by kernel_rfl) hHeld ?hy38 ?rest38
            case hy38 => (intro w hSw; (try dsimp only at hSw); go_simp; (try with_reducible rfl))
            try simp only [Act.put, List.setIfInBounds_toArray, List.set_cons_zero, List.set_cons_succ]
            refine takeW (i := 2) (v := ?v39) rfl (by kernel_rfl) (by kernel_rfl) (by kernel_rfl) (fun _ _ _ h => h) (by kernel_rfl) hHeld ?hy39 ?rest39
            case hy39 => (intro w hSw; (try dsimp only at hSw); go_simp; (try with_reducible rfl))
            try simp only [Act.put, List.setIfInBounds_toArray, List.set_cons_zero, List.set_cons_succ]
            refine takeW (i := 3) (v := ?v40) rfl (by kernel_rfl) (by kernel_rfl) (by kernel_rfl) (fun _ _ _ h => h) (by kernel_rfl) hHeld ?hy40 ?rest40
            case hy40 => (intro w hSw; (try dsimp only at hSw); go_simp; (try with_reducible rfl))
            try simp only [Act.put, List.setIfInBounds_toArray, List.set_cons_zero, List.set_cons_succ]
            refine takeW (i := 4) (v := ?v41) rfl (by kernel_rfl) (by kernel_rfl) (by kernel_rfl) (fun _ _ _ h => h) (by kernel_rfl) hHeld ?hy41 ?rest41
            case hy41 => (intro w hSw; (try dsimp only at hSw); go_simp; (try with_reducible rfl))
            try simp only [Act.put, List.setIfInBounds_toArray, List.set_cons_zero, List.set_cons_succ]
            refine takeW (i := 5) (v := ?v42) rfl (by kernel_rfl) (by kernel_rfl) (by kernel_rfl) (fun _ _ _ h => h) (by kernel_rfl) hHeld ?hy42 ?rest42
            case hy42 => (intro w hSw; (try dsimp only at hSw); go_simp; (try with_reducible rfl))
            try simp only [Act.put, List.setIfInBounds_toArray, List.set_cons_zero, List.set_cons_succ]
            refine takeW (i := 6) (v := ?v43) rfl (by kernel_rfl) (by kernel_rfl) (by kernel_rfl) (fun _ _ _ h => h) (by kernel_rfl) hHeld ?hy43 ?rest43
            case hy43 => (intro w hSw; (try dsimp only at hSw); go_simp; (try with_reducible rfl))
            try simp only [Act.put, List.setIfInBounds_toArray, List.set_cons_zero, List.set_cons_succ]
            refine takeW (i := 7) (v := ?v44) rfl (by kernel_rfl) (by kernel_rfl) (by kernel_rfl) (fun _ _ _ h => h) (by kernel_rfl) hHeld ?hy44 ?rest44
            case hy44 => (intro w hSw; (try dsimp only at hSw); go_simp; (try with_reducible rfl))
            try simp only [Act.put, List.setIfInBounds_toArray, List.set_cons_zero, List.set_cons_succ]
            refine takeU (i := 8) rfl (by kernel_rfl) (by kernel_rfl) (by kernel_rfl) (fun _ _ _ h => h) (by kernel_rfl) hHeld ?_
            try simp only [Act.put, List.setIfInBounds_toArray, List.set_cons_zero, List.set_cons_succ]
            refine takeU (i := 9) rfl (by kernel_rfl) (by kernel_rfl) (by kernel_rfl) (fun _ _ _ h => h) (by kernel_rfl) hHeld ?_
            try simp only [Act.put, List.setIfInBounds_toArray, List.set_cons_zero, List.set_cons_succ]
            refine takeU (i := 10) rfl (by kernel_rfl) (by kernel_rfl) (by kernel_rfl) (fun _ _ _ h => h) (by kernel_rfl) hHeld ?_
            try simp only [Act.put, List.setIfInBounds_toArray, List.set_cons_zero, List.set_cons_succ]
            refine takeU (i := 11) rfl (by kernel_rfl) (by kernel_rfl) (by kernel_rfl) (fun _ _ _ h => h) (by kernel_rfl) hHeld ?_
            try simp only [Act.put, List.setIfInBounds_toArray, List.set_cons_zero, List.set_cons_succ]
            refine takeU (i := 12) rfl (by kernel_rfl) (by kernel_rfl) (by kernel_rfl) (fun _ _ _ h => h) (by kernel_rfl) hHeld ?_
            try simp only [Act.put, List.setIfInBounds_toArray, List.set_cons_zero, List.set_cons_succ]
            refine takeU (i := 13) rfl (by kernel_rfl) (by kernel_rfl) (by kernel_rfl) (fun _ _ _ h => h) (by kernel_rfl) hHeld ?_
            try simp only [Act.put, List.setIfInBounds_toArray, List.set_cons_zero, List.set_cons_succ]
            refine takeU (i := 14) rfl (by kernel_rfl) (by kernel_rfl) (by kernel_rfl) (fun _ _ _ h => h) (by kernel_rfl) hHeld ?_
            try simp only [Act.put, List.setIfInBounds_toArray, List.set_cons_zero, List.set_cons_succ]
            refine takeU (i := 15) rfl (by kernel_rfl) (by kernel_rfl) (by kernel_rfl) (fun _ _ _ h => h) (by kernel_rfl) hHeld ?_
            try simp only [Act.put, List.setIfInBounds_toArray, List.set_cons_zero, List.set_cons_succ]
            refine takeU (i := 16) rfl (by kernel_rfl) (by kernel_rfl) (by kernel_rfl) (fun _ _ _ h => h) (by kernel_rfl) hHeld ?_
            try simp only [Act.put, List.setIfInBounds_toArray, List.set_cons_zero, List.set_cons_succ]
            refine takeU (i := 17) rfl (by kernel_rfl) (by kernel_rfl) (by kernel_rfl) (fun _ _ _ h => h) (by kernel_rfl) hHeld ?_
            try simp only [Act.put, List.setIfInBounds_toArray, List.set_cons_zero, List.set_cons_succ]
            refine takeW (i := 18) (v := ?v45) rfl (by kernel_rfl) (by kernel_rfl) (by kernel_rfl) (fun _ _ _ h => h) (by kernel_rfl) hHeld ?hy45 ?rest45
            case hy45 => (intro w hSw; (try dsimp only at hSw); go_simp; (try with_reducible rfl))
            try simp only [Act.put, List.setIfInBounds_toArray, List.set_cons_zero, List.set_cons_succ]
            refine wpAnyH_done (by kernel_rfl) ?_ _
            have HX := Lib.hid (HI.out.later (Below.refl _ wr).drew)
            generalize wr.drew = wx at *
            clear c0 c1 cl q0 q1 HI hS0 hHeld
            have HINS : Hid (DL (L.take j ++ (k, a) :: L.drop j) (putK (k, a) F)) := Lib.hid (HD.out.ins HO.out HNO.out HKY.out (by rw [HN.out]; exact hj) HLOW.out (fun y hy => by have := HSTOP.out y hy; omega))
            have HLEN : Hid ((L.take j ++ (k, a) :: L.drop j).length = n + 1) := Lib.hid (by rw [List.length_append, List.length_cons, List.length_take, List.length_drop, HN.out]; omega)
            have hbx : base ≤ wx.heap.size := by have := HX.out.below.size; have := HBA.out; omega
            have hrow := HX.out.is.row
            rw [HN.out, rowE_split L j] at hrow
            obtain ⟨A1, d1, w1', A2, d2, w2', A3, d3, w3', r1, r2, r3, b1, b2, b3, o3⟩ := ins3 (t := 71) (by decide) Tryz.underlying71 rwInfo rfl (by decide) hrow (k := j) (m := n - j) (by rw [rowE_len, List.length_take, HN.out]; congr 1; omega) (by rw [rowE_len, List.length_drop, HN.out]) (by omega) (by rw [← rowE_split]; exact rowE_one L) (by omega) #[.string k.g, .string k.t, .int .i64 k.i, .int .i64 a] rfl (by simp [Value.oneCell'])
            have hjn : (j : Int) ≤ (n : Int) := by omega
            have hj0 : (0 : Int) ≤ (j : Int) := by omega
            have hcap : n ≤ c := by
              have h5 := HX.out.is.row
              rw [HN.out] at h5
              rcases h5.2 with ⟨hv, h0⟩ | ⟨g, cap, cur, hv, _, _, hnc, _⟩
              · injection hv with _ h1 h2; omega
              · injection hv with _ _ h2; omega
            have hjc : (j : Int) ≤ (c : Int) := by omega
            have HB3 := Lib.hid b3
            have HO3 := Lib.hid o3
            obtain ⟨c0, c1, cl⟩ := HX.out.is.cells
            rw [HN.out] at c1
            have x11 := (HX.out.is.box.later b1).cell 1 |>.trans (show _ = some (Value.slice _ L.length c) from rfl)
            have x21 := (HX.out.is.box.later b2).cell 1 |>.trans (show _ = some (Value.slice _ L.length c) from rfl)
            have x31 := (HX.out.is.box.later b3).frozen 1
            have x33 := (HX.out.is.box.later b3).cell 1 |>.trans (show _ = some (Value.slice _ L.length c) from rfl)
            rw [HN.out] at x11 x21 x33
            have y0 := (HX.out.pb.later b1).cell 0 |>.trans (show _ = some (Value.string k.t) from rfl)
            have y1 := (HX.out.pb.later b1).cell 1 |>.trans (show _ = some (Value.int .i64 k.i) from rfl)
            have p1 : p < w1'.heap.size := Nat.lt_of_lt_of_le cl b1.size
            have p2 : p < w2'.heap.size := Nat.lt_of_lt_of_le cl b2.size
            have p3 : p < w3'.heap.size := Nat.lt_of_lt_of_le cl b3.size
            clear hrow b1 b2 b3 o3
            unfold sliced at r3
            have hjl2 : j = n := by omega
            subst hjl2
            have hji : ¬ (j : Int) < (j : Int) := by omega
            by_cases hck : c = j
            · rw [if_pos hck, Nat.sub_self, show c - j = 0 by omega] at r3
              subst hck
              go_wp2_with (at_builtin; first | refine wpList_append_run rfl (.tmp 69) (.tmp 75) 71 rfl _ _ _ rfl rfl r1 ?_ | refine wpList_append_run rfl (.tmp 77) (.tmp 82) 71 rfl _ _ _ rfl rfl r2 ?_ | refine wpList_append_run rfl (.tmp 85) (.tmp 91) 71 rfl _ _ _ rfl rfl r3 ?_)
              go_ret
              have hfin := d_close (G := L.take c ++ (k, a) :: L.drop c) HX.out.is hbx HP.out HB3.out HLEN.out (by
                rw [rowE_app]
                exact HO3.out)
              rw [HV.out.1, HV.out.2]
              obtain ⟨⟨A9, c9, h9⟩, hk9, hb9⟩ := hfin
              exact ⟨rfl, ⟨_, A9, c9, h9, HINS.out⟩, (KeepO.of_below HX.out.below).trans hk9, (HX.out.below.mono HBA.out).trans hb9⟩
            · rw [if_neg hck, Nat.sub_self] at r3
              cases A with
              | none =>
                exfalso
                have h5 := HX.out.is.row
                rcases h5.2 with ⟨hv, h0⟩ | ⟨g, cap, cur, hv, _⟩
                · injection hv with _ h1 h2; omega
                · cases hv
              | some ad =>
                have had : ∃ g9, ad = ⟨g9, 0, none⟩ := by
                  have h5 := HX.out.is.row
                  rcases h5.2 with ⟨hv, h0⟩ | ⟨g, cap, cur, hv, _⟩
                  · cases hv
                  · injection hv with e1
                    injection e1 with e1
                    exact ⟨g, e1⟩
                obtain ⟨g9, rfl⟩ := had
                simp only [Option.map_some, add_spot, Nat.zero_add] at r3
                go_wp2_with (at_builtin; first | refine wpList_append_run rfl (.tmp 69) (.tmp 75) 71 rfl _ _ _ rfl rfl r1 ?_ | refine wpList_append_run rfl (.tmp 77) (.tmp 82) 71 rfl _ _ _ rfl rfl r2 ?_ | refine wpList_append_run rfl (.tmp 85) (.tmp 91) 71 rfl _ _ _ rfl rfl r3 ?_)
                go_ret
                have hfin := d_close (G := L.take j ++ (k, a) :: L.drop j) HX.out.is hbx HP.out HB3.out HLEN.out (by
                  rw [rowE_app]
                  exact HO3.out)
                rw [HV.out.1, HV.out.2]
                obtain ⟨⟨A9, c9, h9⟩, hk9, hb9⟩ := hfin
                exact ⟨rfl, ⟨_, A9, c9, h9, HINS.out⟩, (KeepO.of_below HX.out.below).trans hk9, (HX.out.below.mono HBA.out).trans hb9⟩
      · have HV : Hid (coR room F k a = 5 ∧ coS room F k a = F) := Lib.hid (by
          have : coR room F k a = 5 := by rw [hco, if_neg (fun e => e.elim hns hroom)]
          refine ⟨this, ?_⟩
          unfold coS
          rw [this]; rfl)
        have hroom2 : ¬ (L.length : Int) < room := by rw [hD.len]; exact hroom
        clear hco hhas h1 hno hns hroom hD ho hbase hp hg ht hBA h hky hm hw
        go_enter Tryz.func32, Tryz.ntmps32
        go_wp2_with fail
        with_reducible refine (ck _).mono ?_
        rintro en w1 ⟨rfl, hb⟩
        have HI1 := Lib.hid (HI0.out.later hb)
        clear hb ck HI0 q0 q1
        have q0 := (HI1.out.pb.cell 0).trans (show _ = some (Value.string k.t) from rfl)
        have q1 := (HI1.out.pb.cell 1).trans (show _ = some (Value.int .i64 k.i) from rfl)
        have cf1 := cf _ HI1.out.is
        clear cf
        go_wp2_with fail
        with_reducible refine cf1.mono ?_
        rintro en w2 ⟨rfl, hb⟩
        have HI2 := Lib.hid (HI1.out.later hb)
        clear hb cf1 HI1 q0 q1
        obtain ⟨c0, c1, cl⟩ := HI2.out.is.cells
        go_wp2_with fail
        go_quiet (fail)
        have HI3 := Lib.hid (HI2.out.later (below_drewN (Below.refl _ w2) nq))
        go_wp2_with fail
        go_ret
        rw [HV.out.1, HV.out.2]
        exact HI3.out.gots HD.out HBA.out _
    · have HE := Lib.hid h2
      have HV : Hid (coR room F k a = 0 ∧ coS room F k a = putK (k, a) F) := Lib.hid (by
        have : coR room F k a = 0 := by rw [hco, if_pos (.inl (hhas.2 ⟨e, List.mem_of_getElem? h2, h3⟩))]
        refine ⟨this, ?_⟩
        unfold coS
        rw [if_pos this])
      have hset : DL (L.set i (k, a)) (putK (k, a) F) := by
        have := hD.set ho h2 a
        rwa [h3] at this
      have HSET := Lib.hid hset
      have HRS : Hid (rowE (L.set i (k, a)) = (rowE L).set (i * 4 + 3) (.int .i64 a)) := Lib.hid (by
        have := rowE_set h2 a
        rwa [h3] at this)
      have hil : i < L.length := (List.getElem?_eq_some_iff.1 h2).1
      have hi0 : (0 : Int) ≤ (i : Int) := by omega
      have hi1 : (i : Int) < (L.length : Int) := by omega
      rw [h1] at cf
      clear hco hhas h1 h2 h3 hD ho hbase hp hg ht hBA h hky hm hw hset
      go_enter Tryz.func32, Tryz.ntmps32
      go_wp2_with fail
      with_reducible refine (ck _).mono ?_
      rintro en w1 ⟨rfl, hb⟩
      have HI1 := Lib.hid (HI0.out.later hb)
      clear hb ck HI0 q0 q1
      have q0 := (HI1.out.pb.cell 0).trans (show _ = some (Value.string k.t) from rfl)
      have q1 := (HI1.out.pb.cell 1).trans (show _ = some (Value.int .i64 k.i) from rfl)
      have cf1 := cf _ HI1.out.is
      clear cf
      go_wp2_with fail
      with_reducible refine cf1.mono ?_
      rintro en w2 ⟨rfl, hb⟩
      have HI2 := Lib.hid (HI1.out.later hb)
      clear hb cf1 HI1 q0 q1
      obtain ⟨c0, c1, cl⟩ := HI2.out.is.cells
      obtain ⟨gg, rfl, hgb, z0, z1, z2, z3, hzf, hgl, hc⟩ := rd_cell rfl HI2.out.is.row HE.out
      go_wp2_with fail
      go_ret
      rw [HV.out.1, HV.out.2]
      have hbx : ∃ cur, w2.heap[gg]? = some (.cells cur 117 (0, 0)) := by
        rcases HI2.out.is.row.2 with ⟨hv, _⟩ | ⟨g', cap', cur, hv, _, hh, _⟩
        · cases hv
        · injection hv with e1
          injection e1 with e1
          injection e1 with e1
          subst e1
          exact ⟨cur, hh⟩
      obtain ⟨cur, hcur⟩ := hbx
      have hne : p ≠ gg := fun e => by
        have h8 : w2.heap[p]? = some (.cells #[.int .i64 room, .slice (some ⟨gg, 0, none⟩) L.length c] 73 (0, 0)) := HI2.out.is.box
        rw [e, hcur] at h8
        injection h8 with h8
        injection h8 with _ h9 _
        exact absurd h9 (by decide)
      have hrow2 := row_set HI2.out.is.row (t := i * 4 + 3) (by rw [rowE_len]; omega) (.int .i64 a)
      rw [← HRS.out] at hrow2
      have hll : (L.set i (k, a)).length = L.length := List.length_set
      rw [← hll] at hrow2
      refine ⟨rfl, ⟨L.set i (k, a), some ⟨gg, 0, none⟩, c, ⟨?_, hrow2⟩, HSET.out⟩, (KeepO.of_below HI2.out.below).trans (keep_set (b := gg) (cs := cur) hcur (.inr rfl) _), (HI2.out.below.mono HBA.out).trans ((Off.one w2 ⟨gg, i * 4 + 3, none⟩ (.int .i64 a)).below (by have := HI2.out.below.size; have := HBA.out; omega) (fun j hj => by have e : j = gg := hj; omega))⟩
      rw [hll]
      exact HI2.out.is.box.far (p := ⟨gg, i * 4 + 3, none⟩) hne _
end Go.Proofs.YtlokhhjhckiloaaGreat.Of
/- offsets: the document's Forget, Drop, by contracts. No condition but that they are not too many. -/
namespace Go.Proofs.YtlokhhjhckiloaaGreat.Of
open Go.RowKit Go.WideAt
set_option linter.unusedVariables false
/-- Rows from a place on without those of which p says so. -/
def tailD (p : KE → Bool) (L : List KE) (m : Nat) : List KE := L.take m ++ (L.drop m).filter p
theorem tailD_all (p : KE → Bool) (L : List KE) : tailD p L L.length = L := by unfold tailD; simp
theorem tailD_none (p : KE → Bool) (L : List KE) : tailD p L 0 = L.filter p := by unfold tailD; simp
theorem tailD_at {p : KE → Bool} {L : List KE} {j : Nat} {x : KE} (hx : L[j]? = some x) : (tailD p L (j + 1))[j]? = some x := by
  obtain ⟨hj, he⟩ := List.getElem?_eq_some_iff.1 hx
  unfold tailD
  rw [List.getElem?_append_left (by rw [List.length_take]; omega), List.getElem?_take, if_pos (by omega)]
  exact hx
theorem tailD_keep {p : KE → Bool} {L : List KE} {j : Nat} {x : KE} (hx : L[j]? = some x) (hp : p x = true) : tailD p L j = tailD p L (j + 1) := by
  obtain ⟨hj, he⟩ := List.getElem?_eq_some_iff.1 hx
  unfold tailD
  rw [List.drop_eq_getElem_cons hj, he, List.filter_cons_of_pos hp, List.take_add_one, hx]
  simp
theorem tailD_cut {p : KE → Bool} {L : List KE} {j : Nat} {x : KE} (hx : L[j]? = some x) (hp : p x = false) : tailD p L j = (tailD p L (j + 1)).take j ++ (tailD p L (j + 1)).drop (j + 1) := by
  obtain ⟨hj, he⟩ := List.getElem?_eq_some_iff.1 hx
  have hl : (L.take (j + 1)).length = j + 1 := by rw [List.length_take]; omega
  have e1 : (tailD p L (j + 1)).take j = L.take j := by
    unfold tailD
    rw [List.take_append_of_le_length (by omega), List.take_take]
    congr 1; omega
  have e2 : (tailD p L (j + 1)).drop (j + 1) = (L.drop (j + 1)).filter p := by
    unfold tailD
    rw [List.drop_append_of_le_length (by omega), List.drop_of_length_le (by omega)]
    rfl
  rw [e1, e2]
  unfold tailD
  rw [List.drop_eq_getElem_cons hj, he, List.filter_cons_of_neg (by rw [hp]; decide)]
theorem tailD_len (p : KE → Bool) (L : List KE) (m : Nat) : (tailD p L m).length ≤ L.length := by
  unfold tailD
  rw [List.length_append, List.length_take]
  have := List.length_filter_le p (L.drop m)
  rw [List.length_drop] at this
  omega
/-- While rows go. -/
structure FgI (W : World) (base p : Nat) (room : Int) (G : List KE) (w : World) : Prop where
  is : ∃ A c, RdIs w base p room G A c
  keep : KeepO badD W w
  below : Below base W w
set_option maxHeartbeats 8000000 in
set_option maxRecDepth 100000 in
theorem ddrop_c (base p c : Nat) (room : Int) (L : List KE) (A : Option Addr) (s : ByteArray) (W : World) (h : RdIs W base p room L A c) (hl : L.length ≤ 1000000) (hbase : base ≤ W.heap.size) (hp : base ≤ p) :
    Calls Tryz.prog 34 #[.pointer (some ⟨p, 0, none⟩), .string s] W (GotD W base p room (L.filter fun e => !(decide (e.1.t = s))) (.int .i64 ((L.length : Int) - ((L.filter fun e => !(decide (e.1.t = s))).length : Int)))) := by
  obtain ⟨q, hq⟩ : ∃ q : KE → Bool, (fun e : KE => !(decide (e.1.t = s))) = q := ⟨_, rfl⟩
  rw [hq]
  have HQ := Lib.hid hq
  obtain ⟨c0, c1, cl⟩ := h.cells
  have HS : Hid (FgI W base p room (tailD q L L.length) W) := Lib.hid ⟨⟨A, c, by rw [tailD_all]; exact h⟩, fun _ _ hk _ => hk, Below.refl _ _⟩
  have HLEN : Hid ((L.length : Int) - ((tailD q L L.length).length : Int) = 0) := Lib.hid (by rw [tailD_all]; omega)
  have HBS := Lib.hid hbase
  have HPP := Lib.hid hp
  obtain ⟨n, hn⟩ : ∃ n, L.length = n := ⟨_, rfl⟩
  have HN := Lib.hid hn
  rw [hn] at hl c1 HS HLEN
  rw [hn]
  clear h hbase hp hn hq
  go_enter Tryz.func34, Tryz.ntmps34
  go_wp2_with fail
  go_loopw [5, 6] (fun u i wr => ∃ (m : Nat) (x : Int), i = .int .i64 x ∧ x = (m : Int) - 1 ∧ m ≤ n ∧ u = .int .i64 ((n : Int) - ((tailD q L m).length : Int)) ∧ FgI W base p room (tailD q L m) wr) (fun _ i _ => (intOf i + 1).toNat)
  case atStart => exact ⟨n, (n : Int) - 1, by first | rfl | go_num, rfl, Nat.le_refl _, by rw [HLEN.out], HS.out⟩
  case round =>
    obtain ⟨m, x, rfl, hxm, hm, rfl, hI⟩ := hrel
    obtain ⟨⟨A1, d1, his⟩, hkp, hbl⟩ := hI
    have HI := Lib.hid his
    have HK := Lib.hid hkp
    have HB := Lib.hid hbl
    clear his hkp hbl HS HLEN
    have hll : (tailD q L m).length ≤ n := by have := tailD_len q L m; rw [HN.out] at this; exact this
    obtain ⟨z, hz⟩ : ∃ z, (tailD q L m).length = z := ⟨_, rfl⟩
    have HZ := Lib.hid hz
    rw [hz] at hll
    rw [hz]
    clear hz
    by_cases hm0 : m = 0
    · subst hm0
      have hx1 : x = -1 := by rw [hxm]; rfl
      subst hx1
      clear hxm
      go_wp2_with fail
      go_ret
      refine ⟨?_, ⟨A1, d1, by have := HI.out; rw [tailD_none] at this; exact this⟩, HK.out, HB.out⟩
      have := HZ.out
      rw [tailD_none] at this
      rw [this]
      rfl
    · obtain ⟨j, rfl⟩ : ∃ j, m = j + 1 := ⟨m - 1, by omega⟩
      have hxj : x = (j : Int) := by rw [hxm]; omega
      subst hxj
      clear hxm
      obtain ⟨y, hy⟩ : ∃ y, L[j]? = some y := ⟨_, List.getElem?_eq_getElem (by rw [HN.out]; omega)⟩
      have hyt := tailD_at (p := q) hy
      have hzj : j < z := by rw [← HZ.out]; exact (List.getElem?_eq_some_iff.1 hyt).1
      have hrow := HI.out.row
      rw [HZ.out] at hrow
      obtain ⟨g, rfl, _, z0, z1, z2, z3, _, hgl, hc⟩ := rd_cell HZ.out hrow hyt
      obtain ⟨c0', c1', cl'⟩ := HI.out.cells
      rw [HZ.out] at c1'
      have hj0 : (0 : Int) ≤ (j : Int) := by omega
      have hj1 : (j : Int) < (z : Int) := by omega
      have HY := Lib.hid hy
      have cu := dcut_c base p d1 room _ _ j wr HI.out (by rw [HZ.out]; omega) (by have := HB.out.size; have := HBS.out; omega) HPP.out (by rw [HZ.out]; exact hzj)
      clear hy hyt hrow hm0
      by_cases hgs : y.1.t = s
      · have hcmp : (y.1.t.toList == s.toList) = true := by rw [hgs]; exact beq_self _
        have HT := Lib.hid (tailD_cut HY.out (show q y = false by rw [← HQ.out]; simp [hgs]))
        rw [← HT.out] at cu
        clear hgs
        go_wp2_with fail
        with_reducible refine cu.mono ?_
        rintro en w4 ⟨rfl, his4, hkp4, hbl4⟩
        have HI4 := Lib.hid (show FgI W base p room (tailD q L j) w4 from ⟨his4, HK.out.trans hkp4, HB.out.trans hbl4⟩)
        have HCT : Hid ((n : Int) - ((tailD q L j).length : Int) = (n : Int) - (z : Int) + 1) := Lib.hid (by
          have h1 := HT.out
          have h2 := congrArg List.length h1
          rw [List.length_append, List.length_take, List.length_drop, HZ.out] at h2
          omega)
        clear cu his4 hkp4 hbl4
        go_wp2_with fail
        refine ⟨⟨j, (j : Int) - 1, by first | rfl | go_num, rfl, by omega, ?_, HI4.out⟩, by first | (simp [intOf]; done) | (simp [intOf]; omega)⟩
        rw [HCT.out]
      · have hcmp := str_ne' hgs
        have HT := Lib.hid (tailD_keep HY.out (show q y = true by rw [← HQ.out]; simp [hgs]))
        have HI4 : Hid (FgI W base p room (tailD q L j) wr) := Lib.hid ⟨by rw [HT.out]; exact ⟨_, _, HI.out⟩, HK.out, HB.out⟩
        have HCT : Hid ((n : Int) - ((tailD q L j).length : Int) = (n : Int) - (z : Int)) := Lib.hid (by rw [HT.out, HZ.out])
        clear hgs cu
        go_wp2_with fail
        refine ⟨⟨j, (j : Int) - 1, by first | rfl | go_num, rfl, by omega, ?_, HI4.out⟩, by first | (simp [intOf]; done) | (simp [intOf]; omega)⟩
        rw [HCT.out]
end Go.Proofs.YtlokhhjhckiloaaGreat.Of
