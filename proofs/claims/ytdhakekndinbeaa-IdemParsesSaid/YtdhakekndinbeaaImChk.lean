/- idem: Check, by a contract. No condition. -/
import Derived.Test.YtdhakekndinbeaaImNw
import Derived.Test.YtdhakekndinbeaaImWin
namespace Go.Proofs.Ytdhakekndinbeaa
open Go.RowKit
set_option linter.unusedVariables false
def chkV (n : Int) (d : Bool) (e : Int) : Value := .tuple #[.int .i64 n, .bool d, .int .i64 e]
set_option maxHeartbeats 16000000 in
set_option maxRecDepth 100000 in
theorem check_one (p : Nat) (b : BN) (A : Option Addr) (n c : Nat) (W : World) (hp : b.prod = -1) : Calls Try.prog 10 #[dp p, bnV b A n c] W (Good W (chkV 0 false 0)) := by
  have hz : (b.prod == (-1 : Int)) = true := by rw [hp]; rfl
  unfold bnV bnC dp chkV
  go_enter Try.func10, Try.ntmps10
  go_wp2_with fail
  go_ret3
  exact ⟨rfl, (Below.refl _ _).alloc (Nat.le_refl _) _⟩
theorem c2_later {w w' : World} {bx : Nat} {u v : Value} (h : w.cell? ⟨bx, 4, none⟩ = some u ∧ w.cell? ⟨bx, 1, none⟩ = some v ∧ bx < w.heap.size) (hb : Below w.heap.size w w') :
    w'.cell? ⟨bx, 4, none⟩ = some u ∧ w'.cell? ⟨bx, 1, none⟩ = some v ∧ bx < w'.heap.size :=
  ⟨(hb.cell (p := ⟨bx, 4, none⟩) h.2.2).trans h.1, (hb.cell (p := ⟨bx, 1, none⟩) h.2.2).trans h.2.1, Nat.lt_of_lt_of_le h.2.2 hb.size⟩
/-- What Check tells, of those that were heard. -/
def chkO (o : Option HE) (b : BN) : Int × Bool × Int :=
  match o with
  | none => if b.seq = 0 then (0, false, 0) else (0, false, 9)
  | some x =>
    if b.epoch < x.e then (0, false, 8)
    else if b.epoch = x.e then
      match findW x.R x.f b.seq b.span x.c with
      | some k => (k, true, 0)
      | none => if b.seq = nextW x.R x.f x.c then (0, false, 0) else (0, false, 9)
    else if b.seq = 0 then (0, false, 0) else (0, false, 9)
def chkT (t : Int × Bool × Int) : Value := chkV t.1 t.2.1 t.2.2
def chkF (F : List HE) (b : BN) : Int × Bool × Int :=
  if b.prod = -1 then (0, false, 0) else if bnB { b with base := 0 } = true then chkO (ofId F b.prod) b else (0, false, 1)
set_option maxHeartbeats 16000000 in
set_option maxRecDepth 100000 in
theorem check_c (p : Nat) (m : Option Nat) (F : List HE) (b : BN) (A : Option Addr) (n c : Nat) (W : World) (h : PdIs W p m F) : Calls Try.prog 10 #[dp p, bnV b A n c] W (Good W (chkT (chkF F b))) := by
  unfold chkF
  by_cases hp : b.prod = -1
  · rw [if_pos hp]
    exact check_one p b A n c W hp
  rw [if_neg hp]
  have hz : (b.prod == (-1 : Int)) = false := by simp [hp]
  have hB : Below W.heap.size W (W.alloc (.cells #[.int .i64 0, .int .i64 b.span, .int .i64 b.prod, .int .i64 b.epoch, .int .i64 b.seq, .slice A n c] 31)) := (Below.refl _ _).alloc (Nat.le_refl _) _
  have HX := Lib.hid (Box.new W 31 #[.int .i64 0, .int .i64 b.span, .int .i64 b.prod, .int .i64 b.epoch, .int .i64 b.seq, .slice A n c])
  have H0 := Lib.hid (h.later hB)
  have HB := Lib.hid hB
  have cm := fun w => mayBe_c { b with base := 0 } A n c w
  have hcs := fun (w : World) (h : Box w W.heap.size 31 #[.int .i64 0, .int .i64 b.span, .int .i64 b.prod, .int .i64 b.epoch, .int .i64 b.seq, .slice A n c]) => And.intro ((h.cell 1).trans (show _ = some (Value.int .i64 b.span) from rfl)) (And.intro ((h.cell 2).trans (show _ = some (Value.int .i64 b.prod) from rfl)) (And.intro ((h.cell 3).trans (show _ = some (Value.int .i64 b.epoch) from rfl)) (And.intro ((h.cell 4).trans (show _ = some (Value.int .i64 b.seq) from rfl)) h.lt)))
  clear h hB
  cases hb : bnB { b with base := 0 } with
  | false =>
    rw [hb] at cm
    rw [if_neg (by decide)]
    clear hcs hb H0 HX
    unfold bnV bnC dp chkT chkV at *
    simp only at cm ⊢
    go_enter Try.func10, Try.ntmps10
    go_wp2_with fail
    with_reducible refine (cm _).mono ?_
    rintro en w1 ⟨rfl, hb1⟩
    have HB1 := Lib.hid (HB.out.trans (hb1.mono HB.out.size))
    go_wp2_with fail
    go_ret3
    exact ⟨rfl, HB1.out⟩
  | true =>
    rw [hb] at cm
    rw [if_pos rfl]
    obtain ⟨b1, b2, b3, b4, b5⟩ := bnB_of hb
    simp only at b1 b2 b3 b4
    have hpi : i64B b.prod := by unfold i64B; omega
    have cf := fun w (h : PdIs w p m F) => find_c p m F b.prod w h hpi
    clear hb b5
    unfold bnV bnC at *
    unfold dp at cf ⊢
    simp only at cm ⊢
    obtain ⟨V, hV⟩ : ∃ V, chkT (chkO (ofId F b.prod) b) = V := ⟨_, rfl⟩
    rw [hV]
    cases hf : ofId F b.prod with
    | none =>
      rw [hf] at cf hV
      have HV : Hid (V = if b.seq = 0 then chkV 0 false 0 else chkV 0 false 9) := Lib.hid (by
        rw [← hV]
        unfold chkO chkT
        simp only
        split <;> rfl)
      clear hV
      unfold ptrH at cf
      clear hf
      go_enter Try.func10, Try.ntmps10
      go_wp2_with fail
      with_reducible refine (cm _).mono ?_
      rintro en w1 ⟨rfl, hb1⟩
      have HB1 := Lib.hid (HB.out.trans (hb1.mono HB.out.size))
      have H1 := Lib.hid (H0.out.later hb1)
      have HX1 := Lib.hid (HX.out.later hb1)
      obtain ⟨z1, z2, z3, z4, z5⟩ := hcs _ HX1.out
      clear hb1 cm H0 HX
      go_wp2_with fail
      with_reducible refine (cf _ H1.out).mono ?_
      rintro en w2 ⟨rfl, hw⟩
      have hw' := hw.symm
      subst hw'
      by_cases hs : b.seq = 0
      · have HV1 : Hid (chkV 0 false 0 = V) := Lib.hid (by rw [HV.out, if_pos hs])
        have hs1 : (b.seq == (0 : Int)) = true := by rw [hs]; rfl
        go_wp2_with fail
        go_ret3
        exact ⟨congrArg _ HV1.out, HB1.out⟩
      · have HV1 : Hid (chkV 0 false 9 = V) := Lib.hid (by rw [HV.out, if_neg hs])
        have hs1 : (b.seq == (0 : Int)) = false := by simp [hs]
        go_wp2_with fail
        go_ret3
        exact ⟨congrArg _ HV1.out, HB1.out⟩
    | some x =>
      rw [hf] at cf hV
      obtain ⟨hxm, hxi⟩ := ofId_mem hf
      unfold chkO chkT at hV
      simp only at hV
      unfold ptrH at cf
      clear hf
      by_cases he : b.epoch < x.e
      · have HV : Hid (chkV 0 false 8 = V) := Lib.hid (by rw [← hV, if_pos he])
        have he1 : decide (b.epoch < x.e) = true := decide_eq_true he
        clear hV
        go_enter Try.func10, Try.ntmps10
        go_wp2_with fail
        with_reducible refine (cm _).mono ?_
        rintro en w1 ⟨rfl, hb1⟩
        have HB1 := Lib.hid (HB.out.trans (hb1.mono HB.out.size))
        have H1 := Lib.hid (H0.out.later hb1)
        have HX1 := Lib.hid (HX.out.later hb1)
        obtain ⟨z1, z2, z3, z4, z5⟩ := hcs _ HX1.out
        obtain ⟨x0, _, _, x3⟩ := (H1.out.all x hxm).pr.cells
        clear hb1 cm H0 HX
        go_wp2_with fail
        with_reducible refine (cf _ H1.out).mono ?_
        rintro en w2 ⟨rfl, hw⟩
        have hw' := hw.symm
        subst hw'
        go_wp2_with fail
        go_quiet (fail)
        go_wp2_with fail
        go_ret3
        exact ⟨congrArg _ HV.out, below_drewN HB1.out _⟩
      have he1 : decide (b.epoch < x.e) = false := decide_eq_false he
      rw [if_neg he] at hV
      by_cases hq : b.epoch = x.e
      · rw [if_pos hq] at hV
        have HQ := Lib.hid hq
        clear hq
        cases hfw : findW x.R x.f b.seq b.span x.c with
        | some k =>
          rw [hfw] at hV
          have HV : Hid (chkV k true 0 = V) := Lib.hid hV
          clear hV
          go_enter Try.func10, Try.ntmps10
          go_wp2_with fail
          with_reducible refine (cm _).mono ?_
          rintro en w1 ⟨rfl, hb1⟩
          have HB1 := Lib.hid (HB.out.trans (hb1.mono HB.out.size))
          have H1 := Lib.hid (H0.out.later hb1)
          have HX1 := Lib.hid (HX.out.later hb1)
          obtain ⟨z1, z2, z3, z4, z5⟩ := hcs _ HX1.out
          obtain ⟨x0, _, _, x3⟩ := (H1.out.all x hxm).pr.cells
          clear hb1 cm H0 HX
          go_wp2_with fail
          with_reducible refine (cf _ H1.out).mono ?_
          rintro en w2 ⟨rfl, hw⟩
          have hw' := hw.symm
          subst hw'
          have hq1 : (b.epoch == x.e) = true := by rw [HQ.out]; exact beq_self_eq_true _
          have HXa0 := HX1
          have HHa0 := H1
          clear HX1 H1
          go_wp2_with fail
          go_quiet (fail)
          have hqa := below_drewN (Below.refl w1.heap.size w1) nq
          generalize w1.drewN nq = wa at *
          have HBa := Lib.hid (HB1.out.trans (hqa.mono HB1.out.size))
          have HXa := Lib.hid (HXa0.out.later hqa)
          have HHa := Lib.hid (HHa0.out.later hqa)
          clear hqa z1 z2 z3 z4 z5 x0 x3 HXa0 HHa0
          obtain ⟨z1, z2, z3, z4, z5⟩ := hcs _ HXa.out
          obtain ⟨x0, _, _, x3⟩ := (HHa.out.all x hxm).pr.cells
          have HXb0 := HXa
          have HHb0 := HHa
          clear HXa HHa
          go_wp2_with fail
          go_quiet (fail)
          have hqb := below_drewN (Below.refl wa.heap.size wa) nq
          generalize wa.drewN nq = wb at *
          have HBb := Lib.hid (HBa.out.trans (hqb.mono HBa.out.size))
          have HXb := Lib.hid (HXb0.out.later hqb)
          have HHb := Lib.hid (HHb0.out.later hqb)
          clear hqb z1 z2 z3 z4 z5 x0 x3 HXb0 HHb0
          obtain ⟨z1, z2, z3, z4, z5⟩ := hcs _ HXb.out
          obtain ⟨x0, _, _, x3⟩ := (HHb.out.all x hxm).pr.cells
          have cw := wfind_c x.blk x.e x.R x.f x.c b.seq b.span (wb.drew) ((HHb.out.all x hxm).pr.later ((Below.refl _ _).drew))
          rw [hfw] at cw
          unfold foundV at cw
          simp only at cw
          clear hfw
          have hS3 := And.intro z4 (And.intro z1 z5)
          clear z1 z2 z3 z4 z5
          go_wp2_with fail
          go_region_held3 (fun w => w.cell? ⟨W.heap.size, 4, none⟩ = some (.int .i64 b.seq) ∧ w.cell? ⟨W.heap.size, 1, none⟩ = some (.int .i64 b.span) ∧ W.heap.size < w.heap.size) (first | exact hS3 | exact c2_later hS3 hbA)
            (first | ((with_reducible refine cw.mono ?_); rintro en w4 ⟨rfl, hb4⟩; have hbA : Below wb.heap.size wb w4 := (Below.refl _ wb).drew.trans hb4))
          all_goals
            go_wp2_with fail
            go_ret3
            exact ⟨congrArg _ HV.out, HBb.out.trans (hbA.mono HBb.out.size)⟩
        | none =>
          rw [hfw] at hV
          simp only at hV
          have HV : Hid (V = if b.seq = nextW x.R x.f x.c then chkV 0 false 0 else chkV 0 false 9) := Lib.hid (by
            rw [← hV]
            split <;> rfl)
          clear hV
          go_enter Try.func10, Try.ntmps10
          go_wp2_with fail
          with_reducible refine (cm _).mono ?_
          rintro en w1 ⟨rfl, hb1⟩
          have HB1 := Lib.hid (HB.out.trans (hb1.mono HB.out.size))
          have H1 := Lib.hid (H0.out.later hb1)
          have HX1 := Lib.hid (HX.out.later hb1)
          obtain ⟨z1, z2, z3, z4, z5⟩ := hcs _ HX1.out
          obtain ⟨x0, _, _, x3⟩ := (H1.out.all x hxm).pr.cells
          clear hb1 cm H0 HX
          go_wp2_with fail
          with_reducible refine (cf _ H1.out).mono ?_
          rintro en w2 ⟨rfl, hw⟩
          have hw' := hw.symm
          subst hw'
          have hq1 : (b.epoch == x.e) = true := by rw [HQ.out]; exact beq_self_eq_true _
          have HXa0 := HX1
          have HHa0 := H1
          clear HX1 H1
          go_wp2_with fail
          go_quiet (fail)
          have hqa := below_drewN (Below.refl w1.heap.size w1) nq
          generalize w1.drewN nq = wa at *
          have HBa := Lib.hid (HB1.out.trans (hqa.mono HB1.out.size))
          have HXa := Lib.hid (HXa0.out.later hqa)
          have HHa := Lib.hid (HHa0.out.later hqa)
          clear hqa z1 z2 z3 z4 z5 x0 x3 HXa0 HHa0
          obtain ⟨z1, z2, z3, z4, z5⟩ := hcs _ HXa.out
          obtain ⟨x0, _, _, x3⟩ := (HHa.out.all x hxm).pr.cells
          have HXb0 := HXa
          have HHb0 := HHa
          clear HXa HHa
          go_wp2_with fail
          go_quiet (fail)
          have hqb := below_drewN (Below.refl wa.heap.size wa) nq
          generalize wa.drewN nq = wb at *
          have HBb := Lib.hid (HBa.out.trans (hqb.mono HBa.out.size))
          have HXb := Lib.hid (HXb0.out.later hqb)
          have HHb := Lib.hid (HHb0.out.later hqb)
          clear hqb z1 z2 z3 z4 z5 x0 x3 HXb0 HHb0
          obtain ⟨z1, z2, z3, z4, z5⟩ := hcs _ HXb.out
          obtain ⟨x0, _, _, x3⟩ := (HHb.out.all x hxm).pr.cells
          have cw := wfind_c x.blk x.e x.R x.f x.c b.seq b.span (wb.drew) ((HHb.out.all x hxm).pr.later ((Below.refl _ _).drew))
          rw [hfw] at cw
          unfold foundV at cw
          simp only at cw
          clear hfw
          have hS3 := And.intro z4 (And.intro z1 z5)
          clear z1 z2 z3 z4 z5
          go_wp2_with fail
          go_region_held3 (fun w => w.cell? ⟨W.heap.size, 4, none⟩ = some (.int .i64 b.seq) ∧ w.cell? ⟨W.heap.size, 1, none⟩ = some (.int .i64 b.span) ∧ W.heap.size < w.heap.size) (first | exact hS3 | exact c2_later hS3 hbA)
            (first | ((with_reducible refine cw.mono ?_); rintro en w4 ⟨rfl, hb4⟩; have hbA : Below wb.heap.size wb w4 := (Below.refl _ wb).drew.trans hb4))
          all_goals
            have HB4 := Lib.hid (HBb.out.trans (hbA.mono HBb.out.size))
            have HX4 := Lib.hid (HXb.out.later hbA)
            have HH4 := Lib.hid (HHb.out.later hbA)
            have cn := fun w (hb : Below w4.heap.size w4 w) => wnext_c x.blk x.e x.R x.f x.c w ((HH4.out.all x hxm).pr.later hb) (HH4.out.all x hxm).ok
            clear hbA hb4 hS3
            obtain ⟨x0, _, _, x3⟩ := (HH4.out.all x hxm).pr.cells
            go_wp2_with fail
            with_reducible refine (cn _ (Below.refl _ _)).mono ?_
            rintro en w5 ⟨rfl, hb5⟩
            have HB5 := Lib.hid (HB4.out.trans (hb5.mono HB4.out.size))
            have HX5 := Lib.hid (HX4.out.later hb5)
            obtain ⟨z1, z2, z3, z4, z5⟩ := hcs _ HX5.out
            clear hb5 cn x0 x3
            generalize nextW x.R x.f x.c = N at *
            by_cases hs : b.seq = N
            · have HV1 : Hid (chkV 0 false 0 = V) := Lib.hid (by rw [HV.out, if_pos hs])
              have hs1 : (b.seq == N) = true := by rw [hs]; exact beq_self_eq_true _
              clear hs
              go_wp2_with fail
              go_ret3
              exact ⟨congrArg _ HV1.out, HB5.out⟩
            · have HV1 : Hid (chkV 0 false 9 = V) := Lib.hid (by rw [HV.out, if_neg hs])
              have hs1 : (b.seq == N) = false := by simp [hs]
              clear hs
              go_wp2_with fail
              go_ret3
              exact ⟨congrArg _ HV1.out, HB5.out⟩
      · rw [if_neg hq] at hV
        have hq1 : (b.epoch == x.e) = false := by simp [hq]
        have HV : Hid (V = if b.seq = 0 then chkV 0 false 0 else chkV 0 false 9) := Lib.hid (by
          rw [← hV]
          split <;> rfl)
        clear hV
        go_enter Try.func10, Try.ntmps10
        go_wp2_with fail
        with_reducible refine (cm _).mono ?_
        rintro en w1 ⟨rfl, hb1⟩
        have HB1 := Lib.hid (HB.out.trans (hb1.mono HB.out.size))
        have H1 := Lib.hid (H0.out.later hb1)
        have HX1 := Lib.hid (HX.out.later hb1)
        obtain ⟨z1, z2, z3, z4, z5⟩ := hcs _ HX1.out
        obtain ⟨x0, _, _, x3⟩ := (H1.out.all x hxm).pr.cells
        clear hb1 cm H0 HX
        go_wp2_with fail
        with_reducible refine (cf _ H1.out).mono ?_
        rintro en w2 ⟨rfl, hw⟩
        have hw' := hw.symm
        subst hw'
        have HXa0 := HX1
        have HHa0 := H1
        clear HX1 H1
        go_wp2_with fail
        go_quiet (fail)
        have hqa := below_drewN (Below.refl w1.heap.size w1) nq
        generalize w1.drewN nq = wa at *
        have HBa := Lib.hid (HB1.out.trans (hqa.mono HB1.out.size))
        have HXa := Lib.hid (HXa0.out.later hqa)
        have HHa := Lib.hid (HHa0.out.later hqa)
        clear hqa z1 z2 z3 z4 z5 x0 x3 HXa0 HHa0
        obtain ⟨z1, z2, z3, z4, z5⟩ := hcs _ HXa.out
        obtain ⟨x0, _, _, x3⟩ := (HHa.out.all x hxm).pr.cells
        have HXb0 := HXa
        have HHb0 := HHa
        clear HXa HHa
        go_wp2_with fail
        go_quiet (fail)
        have hqb := below_drewN (Below.refl wa.heap.size wa) nq
        generalize wa.drewN nq = wb at *
        have HBb := Lib.hid (HBa.out.trans (hqb.mono HBa.out.size))
        have HXb := Lib.hid (HXb0.out.later hqb)
        have HHb := Lib.hid (HHb0.out.later hqb)
        clear hqb z1 z2 z3 z4 z5 x0 x3 HXb0 HHb0
        obtain ⟨z1, z2, z3, z4, z5⟩ := hcs _ HXb.out
        obtain ⟨x0, _, _, x3⟩ := (HHb.out.all x hxm).pr.cells
        by_cases hs : b.seq = 0
        · have HV1 : Hid (chkV 0 false 0 = V) := Lib.hid (by rw [HV.out, if_pos hs])
          have hs1 : (b.seq == (0 : Int)) = true := by rw [hs]; rfl
          go_wp2_with fail
          go_ret3
          exact ⟨congrArg _ HV1.out, HBb.out⟩
        · have HV1 : Hid (chkV 0 false 9 = V) := Lib.hid (by rw [HV.out, if_neg hs])
          have hs1 : (b.seq == (0 : Int)) = false := by simp [hs]
          go_wp2_with fail
          go_ret3
          exact ⟨congrArg _ HV1.out, HBb.out⟩
end Go.Proofs.Ytdhakekndinbeaa
