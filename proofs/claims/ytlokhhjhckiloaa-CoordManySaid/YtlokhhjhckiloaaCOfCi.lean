/- offsets: Commit, by a contract. No condition but that there are not too many. -/
import Derived.Test.YtlokhhjhckiloaaCOfCom
import Derived.Test.YtlokhhjhckiloaaTakes
namespace Go.Proofs.Ytlokhhjhckiloaa.Of
open Go.RowKit Go.Maps Go.ChangeMaps Go.WideMaps
set_option linter.unusedVariables false
/-- Commit: the error; the entries behind it. -/
def coR (room : Int) (F : List KE) (k : KY) (a : Int) : Int :=
  if mayK k && witB a 0 1099511627776 then (if (ofK F (kyB k)).isSome || decide ((F.length : Int) < room) then 0 else 5) else 1
def coS (room : Int) (F : List KE) (k : KY) (a : Int) : List KE := if coR room F k a = 0 then putK (k, a) F else F
theorem box_ne_map {w : World} {b g n : Nat} {t k : TypeId} {cs : Array Value} {D : DataW Unit} {R : Value → Option (DataW Unit × List MemPlace)} (h : Box w b t cs) (hm : w.ownsMap Try.prog k R g n D) : b ≠ g := by
  rintro rfl
  obtain ⟨es, clock, hb, _⟩ := hm
  unfold Box at h
  rw [h] at hb
  injection hb with hb
  cases hb
/-- While a commit goes on: the table, the key's own box. -/
structure CmI (W : World) (p g : Nat) (room : Int) (F : List KE) (o : Nat) (k : KY) (w : World) : Prop where
  is : OfIs w p g room F
  box : Box w o 68 #[.string k.g, .string k.t, .int .i64 k.i]
  off : Off (fun i => i = g) W w
theorem CmI.later {W w w' : World} {p g o : Nat} {room : Int} {F : List KE} {k : KY} (h : CmI W p g room F o k w) (hb : Below w.heap.size w w') : CmI W p g room F o k w' := ⟨h.is.later hb, h.box.later hb, h.off.later hb⟩
theorem CmI.drew {W w : World} {p g o : Nat} {room : Int} {F : List KE} {k : KY} (h : CmI W p g room F o k w) : CmI W p g room F o k w.drew := h.later (Below.refl _ _).drew
theorem CmI.drewN {W w : World} {p g o : Nat} {room : Int} {F : List KE} {k : KY} (h : CmI W p g room F o k w) (n : Nat) : CmI W p g room F o k (w.drewN n) := h.later (below_drewN (Below.refl _ _) n)
theorem CmI.facts {W w : World} {p g o : Nat} {room : Int} {F : List KE} {k : KY} (h : CmI W p g room F o k w) :
    w.cell? ⟨p, 1, none⟩ = some (.map (some g)) ∧ w.cell? ⟨o, 0, none⟩ = some (.string k.g) ∧ w.cell? ⟨o, 1, none⟩ = some (.string k.t) ∧ w.cell? ⟨o, 2, none⟩ = some (.int .i64 k.i) :=
  ⟨h.is.cells.2.1, (h.box.cell 0).trans rfl, (h.box.cell 1).trans rfl, (h.box.cell 2).trans rfl⟩
theorem CmI.put {W w w' : World} {p g o : Nat} {room : Int} {F : List KE} {k : KY} {x : KE} (h : CmI W p g room F o k w) (hm : w'.ownsMap Try.prog 68 tokI g (putK x F).length (mapK (putK x F))) (hg : w.grownBy w' (some g)) : CmI W p g room (putK x F) o k w' := by
  have n1 := box_ne_map h.is.box h.is.map
  have n2 := box_ne_map h.box h.is.map
  refine ⟨⟨(hg.block p h.is.box.lt (fun e => n1 (Option.some.inj e))).trans h.is.box, hm, putK_rise h.is.rise⟩, (hg.block o h.box.lt (fun e => n2 (Option.some.inj e))).trans h.box, h.off.grown hg (fun i hi _ => by injection hi with hi; exact hi.symm)⟩
def GotCm (W : World) (p g : Nat) (room : Int) (F : List KE) (e : Int) (en : Ending) (w' : World) : Prop := en = .returned (.int .i64 e) ∧ OfIs w' p g room F ∧ Off (fun i => i = g) W w'
theorem commit_nil (k : KY) (a : Int) (W : World) : Calls Try.prog 24 #[.pointer none, .agg #[.string k.g, .string k.t, .int .i64 k.i], .int .i64 a] W (fun e w' => e = .returned (.int .i64 1) ∧ Below W.heap.size W w') := by
  go_enter Try.func24, Try.ntmps24
  go_wp2_with fail
  go_ret
  exact ⟨rfl, (Below.refl _ _).alloc (Nat.le_refl _) _⟩
set_option maxHeartbeats 16000000 in
set_option maxRecDepth 100000 in
theorem commit_c (p g : Nat) (room : Int) (F : List KE) (k : KY) (a : Int) (W : World) (h : OfIs W p g room F) (hl : F.length ≤ 1000000) :
    Calls Try.prog 24 #[.pointer (some ⟨p, 0, none⟩), .agg #[.string k.g, .string k.t, .int .i64 k.i], .int .i64 a] W (GotCm W p g room (coS room F k a) (coR room F k a)) := by
  have hQ1 : CmI W p g room F W.heap.size k (W.alloc (.cells #[.string k.g, .string k.t, .int .i64 k.i] 68)) := ⟨h.later ((Below.refl _ _).alloc (Nat.le_refl _) _), Box.new _ _ _, (Off.refl _ _).alloc _⟩
  have HQ1 := Lib.hid hQ1
  obtain ⟨q1, b0, b1, b2⟩ := hQ1.facts
  have cm := fun w => kmay_c k w
  have cw := fun w => within_c a 0 1099511627776 w
  obtain ⟨r, hr⟩ : ∃ r, coR room F k a = r := ⟨_, rfl⟩
  have hcs : coS room F k a = if r = 0 then putK (k, a) F else F := by unfold coS; rw [hr]
  rw [hcs, hr]
  clear hcs
  unfold coR at hr
  cases hm : mayK k with
  | false =>
    rw [hm] at hr cm
    simp only [Bool.false_and, Bool.false_eq_true, if_false] at hr
    subst hr
    rw [if_neg (by decide)]
    clear hm hQ1 h
    go_enter Try.func24, Try.ntmps24
    go_wp2_with fail
    with_reducible refine (cm _).mono ?_
    rintro en w1 ⟨rfl, rfl⟩
    go_wp2_with fail
    go_ret
    have := HQ1.out.later ((Below.refl (W.alloc (.cells #[.string k.g, .string k.t, .int .i64 k.i] 68)).heap.size (W.alloc (.cells #[.string k.g, .string k.t, .int .i64 k.i] 68))).alloc (Nat.le_refl _) (.cells #[.string k.g, .string k.t, .int .i64 k.i] 68))
    exact ⟨rfl, this.is, this.off⟩
  | true =>
    have hok := mayK_ok hm
    have HKS : Hid (k.g.size ≤ 100 ∧ k.t.size ≤ 100) := Lib.hid (by unfold mayK witB at hm; simp only [Bool.and_eq_true, decide_eq_true_eq] at hm; omega)
    rw [hm] at hr cm
    cases hw : witB a 0 1099511627776 with
    | false =>
      rw [hw] at hr cw
      simp only [Bool.and_false, Bool.false_eq_true, if_false] at hr
      subst hr
      rw [if_neg (by decide)]
      clear hm hw hQ1 h hok
      go_enter Try.func24, Try.ntmps24
      go_wp2_with fail
      with_reducible refine (cm _).mono ?_
      rintro en w1 ⟨rfl, rfl⟩
      go_wp2_with fail
      with_reducible refine (cw _).mono ?_
      rintro en w1 ⟨rfl, rfl⟩
      go_wp2_with fail
      go_ret
      have := HQ1.out.later ((Below.refl (W.alloc (.cells #[.string k.g, .string k.t, .int .i64 k.i] 68)).heap.size (W.alloc (.cells #[.string k.g, .string k.t, .int .i64 k.i] 68))).alloc (Nat.le_refl _) (.cells #[.string k.g, .string k.t, .int .i64 k.i] 68))
      exact ⟨rfl, this.is, this.off⟩
    | true =>
      rw [hw] at hr cw
      simp only [Bool.and_self, if_true] at hr
      clear hm hw
      have hQ2 := hQ1.later ((Below.refl (W.alloc (.cells #[.string k.g, .string k.t, .int .i64 k.i] 68)).heap.size (W.alloc (.cells #[.string k.g, .string k.t, .int .i64 k.i] 68))).alloc (Nat.le_refl _) (.cells #[.string k.g, .string k.t, .int .i64 k.i] 68))
      have HQ2 := Lib.hid hQ2
      have hl2 := fun n : Nat => look_any (hQ2.drewN n).is k hok true
      have hln := fun n : Nat => fun ty => len_run (hQ2.drewN n).is ty
      obtain ⟨q0, q1', _⟩ := hQ2.is.cells
      obtain ⟨_, d0, d1, d2⟩ := hQ2.facts
      unfold kyV at hl2
      cases hf : ofK F (kyB k) with
      | none =>
        rw [hf] at hr hl2
        simp only [Option.isSome_none, Bool.false_or, decide_eq_true_eq] at hr
        unfold lookV at hl2
        simp only [if_true, Option.isSome_none] at hl2
        by_cases hroom : (F.length : Int) < room
        · rw [if_pos hroom] at hr
          subst hr
          rw [if_pos rfl]
          have hg1 : decide (room ≤ (F.length : Int)) = false := decide_eq_false (by omega)
          clear hf hQ1 h
          go_enter Try.func24, Try.ntmps24
          go_wp2_with fail
          with_reducible refine (cm _).mono ?_
          rintro en w1 ⟨rfl, rfl⟩
          go_wp2_with fail
          with_reducible refine (cw _).mono ?_
          rintro en w1 ⟨rfl, rfl⟩
          go_wp2_with fail
          go_quiet (fail)
          have HQ3 := Lib.hid (HQ2.out.drewN nq)
          generalize ((W.alloc (.cells #[.string k.g, .string k.t, .int .i64 k.i] 68)).alloc (.cells #[.string k.g, .string k.t, .int .i64 k.i] 68)).drewN nq = wa at *
          clear hl2 hln q0 q1' d0 d1 d2 HQ2 hQ2
          obtain ⟨q0, q1', _⟩ := HQ3.out.is.cells
          have hln := fun n : Nat => fun ty => len_run (HQ3.out.drewN n).is ty
          go_wp2_with fail
          go_quiet (fail)
          have HQ := Lib.hid (HQ3.out.drewN nq)
          generalize wa.drewN nq = wr at *
          clear hln q0 q1' HQ3
          have cc := fun w => copied_c k w (by have := HKS.out.1; omega) (by have := HKS.out.2; omega)
          obtain ⟨U, hU, hV⟩ := upd_fun g F.length F (k, a) hok (by unfold maxLen; omega)
          generalize W.heap.size = o at *
          have hS0 := HQ.out.drew.facts
          go_wp2_with fail
          refine wp_region_held_drew (S := (fun w => w.cell? ⟨p, 1, none⟩ = some (.map (some g)) ∧ w.cell? ⟨o, 0, none⟩ = some (.string k.g) ∧ w.cell? ⟨o, 1, none⟩ = some (.string k.t) ∧ w.cell? ⟨o, 2, none⟩ = some (.int .i64 k.i))) (by kernel_rfl) hS0 (fun hHeld => ?_)
          refine takeW (i := 0) (v := ?v1001) rfl (by kernel_rfl) (by kernel_rfl) (by kernel_rfl) (fun _ _ _ h => h) (by kernel_rfl) hHeld ?hy1001 ?rest1001
          case hy1001 => (intro w hSw; (try dsimp only at hSw); go_simp; (try with_reducible rfl))
          try simp only [Act.put, List.setIfInBounds_toArray, List.set_cons_zero, List.set_cons_succ]
          refine takeW (i := 1) (v := ?v1002) rfl (by kernel_rfl) (by kernel_rfl) (by kernel_rfl) (fun _ _ _ h => h) (by kernel_rfl) hHeld ?hy1002 ?rest1002
          case hy1002 => (intro w hSw; (try dsimp only at hSw); go_simp; (try with_reducible rfl))
          try simp only [Act.put, List.setIfInBounds_toArray, List.set_cons_zero, List.set_cons_succ]
          refine takeW (i := 2) (v := ?v1003) rfl (by kernel_rfl) (by kernel_rfl) (by kernel_rfl) (fun _ _ _ h => h) (by kernel_rfl) hHeld ?hy1003 ?rest1003
          case hy1003 => (intro w hSw; (try dsimp only at hSw); go_simp; (try with_reducible rfl))
          try simp only [Act.put, List.setIfInBounds_toArray, List.set_cons_zero, List.set_cons_succ]
          refine takeW (i := 3) (v := ?v1004) rfl (by kernel_rfl) (by kernel_rfl) (by kernel_rfl) (fun _ _ _ h => h) (by kernel_rfl) hHeld ?hy1004 ?rest1004
          case hy1004 => (intro w hSw; (try dsimp only at hSw); go_simp; (try with_reducible rfl))
          try simp only [Act.put, List.setIfInBounds_toArray, List.set_cons_zero, List.set_cons_succ]
          refine takeW (i := 4) (v := ?v1005) rfl (by kernel_rfl) (by kernel_rfl) (by kernel_rfl) (fun _ _ _ h => h) (by kernel_rfl) hHeld ?hy1005 ?rest1005
          case hy1005 => (intro w hSw; (try dsimp only at hSw); go_simp; (try with_reducible rfl))
          try simp only [Act.put, List.setIfInBounds_toArray, List.set_cons_zero, List.set_cons_succ]
          refine takeW (i := 6) (v := ?v1006) rfl (by kernel_rfl) (by kernel_rfl) (by kernel_rfl) (fun _ _ _ h => h) (by kernel_rfl) hHeld ?hy1006 ?rest1006
          case hy1006 => (intro w hSw; (try dsimp only at hSw); go_simp; (try with_reducible rfl))
          try simp only [Act.put, List.setIfInBounds_toArray, List.set_cons_zero, List.set_cons_succ]
          refine wpAnyH_ready (rs := [5]) (by kernel_rfl) (by simp) ?_
          refine consL rfl (by kernel_rfl) (fun K hK => ?_) AllReadyH.nil
          go_simp
          with_reducible refine (cc _).mono ?_
          rintro en w4 ⟨rfl, hb4⟩
          have HQ4 := Lib.hid (HQ.out.drew.later hb4)
          refine hK.out _ _ (HQ4.out.facts) (fun hHeld => ?_)
          clear hK K
          try simp only [Act.put, List.setIfInBounds_toArray, List.set_cons_zero, List.set_cons_succ]
          refine wpAnyH_ready (rs := [7]) (by kernel_rfl) (by simp) ?_
          refine consL rfl (by kernel_rfl) (fun K hK => ?_) AllReadyH.nil
          have hU1 := hU _ HQ4.out.is.map
          unfold kyV at hU1
          go_simp
          have HQ5 := Lib.hid (HQ4.out.put (hV _ HQ4.out.is.map).1 (hV _ HQ4.out.is.map).2)
          refine hK.out _ _ (HQ5.out.facts) (fun hHeld => ?_)
          clear hK K
          try simp only [Act.put, List.setIfInBounds_toArray, List.set_cons_zero, List.set_cons_succ]
          refine wpAnyH_done (by kernel_rfl) ?_ _
          go_wp2_with fail
          go_ret
          exact ⟨rfl, HQ5.out.is, HQ5.out.off⟩
        · rw [if_neg hroom] at hr
          subst hr
          rw [if_neg (by decide)]
          have hg1 : room ≤ (F.length : Int) := by omega
          clear hf hQ1 hQ2 h hroom
          go_enter Try.func24, Try.ntmps24
          go_wp2_with fail
          with_reducible refine (cm _).mono ?_
          rintro en w1 ⟨rfl, rfl⟩
          go_wp2_with fail
          with_reducible refine (cw _).mono ?_
          rintro en w1 ⟨rfl, rfl⟩
          go_wp2_with fail
          go_quiet (fail)
          have HQ3 := Lib.hid (HQ2.out.drewN nq)
          generalize ((W.alloc (.cells #[.string k.g, .string k.t, .int .i64 k.i] 68)).alloc (.cells #[.string k.g, .string k.t, .int .i64 k.i] 68)).drewN nq = wa at *
          clear hl2 hln q0 q1' d0 d1 d2 HQ2
          obtain ⟨q0, q1', _⟩ := HQ3.out.is.cells
          have hln := fun n : Nat => fun ty => len_run (HQ3.out.drewN n).is ty
          go_wp2_with fail
          go_quiet (fail)
          have HQ4 := Lib.hid (HQ3.out.drewN nq)
          go_wp2_with fail
          go_ret
          exact ⟨rfl, HQ4.out.is, HQ4.out.off⟩
      | some e0 =>
        rw [hf] at hr hl2
        simp only [Option.isSome_some, Bool.true_or, if_true] at hr
        subst hr
        rw [if_pos rfl]
        unfold lookV at hl2
        simp only [if_true, Option.isSome_some] at hl2
        clear hf hQ1 h
        go_enter Try.func24, Try.ntmps24
        go_wp2_with fail
        with_reducible refine (cm _).mono ?_
        rintro en w1 ⟨rfl, rfl⟩
        go_wp2_with fail
        with_reducible refine (cw _).mono ?_
        rintro en w1 ⟨rfl, rfl⟩
        go_wp2_with fail
        go_quiet (fail)
        have HQ3 := Lib.hid (HQ2.out.drewN nq)
        generalize ((W.alloc (.cells #[.string k.g, .string k.t, .int .i64 k.i] 68)).alloc (.cells #[.string k.g, .string k.t, .int .i64 k.i] 68)).drewN nq = wa at *
        clear hl2 hln q0 q1' d0 d1 d2 HQ2 hQ2
        obtain ⟨q0, q1', _⟩ := HQ3.out.is.cells
        have hln := fun n : Nat => fun ty => len_run (HQ3.out.drewN n).is ty
        go_wp2_with fail
        go_quiet (fail)
        have HQ := Lib.hid (HQ3.out.drewN nq)
        generalize wa.drewN nq = wr at *
        clear hln q0 q1' HQ3
        have cc := fun w => copied_c k w (by have := HKS.out.1; omega) (by have := HKS.out.2; omega)
        obtain ⟨U, hU, hV⟩ := upd_fun g F.length F (k, a) hok (by unfold maxLen; omega)
        generalize W.heap.size = o at *
        have hS0 := HQ.out.drew.facts
        go_wp2_with fail
        refine wp_region_held_drew (S := (fun w => w.cell? ⟨p, 1, none⟩ = some (.map (some g)) ∧ w.cell? ⟨o, 0, none⟩ = some (.string k.g) ∧ w.cell? ⟨o, 1, none⟩ = some (.string k.t) ∧ w.cell? ⟨o, 2, none⟩ = some (.int .i64 k.i))) (by kernel_rfl) hS0 (fun hHeld => ?_)
        refine takeW (i := 0) (v := ?v801) rfl (by kernel_rfl) (by kernel_rfl) (by kernel_rfl) (fun _ _ _ h => h) (by kernel_rfl) hHeld ?hy801 ?rest801
        case hy801 => (intro w hSw; (try dsimp only at hSw); go_simp; (try with_reducible rfl))
        try simp only [Act.put, List.setIfInBounds_toArray, List.set_cons_zero, List.set_cons_succ]
        refine takeW (i := 1) (v := ?v802) rfl (by kernel_rfl) (by kernel_rfl) (by kernel_rfl) (fun _ _ _ h => h) (by kernel_rfl) hHeld ?hy802 ?rest802
        case hy802 => (intro w hSw; (try dsimp only at hSw); go_simp; (try with_reducible rfl))
        try simp only [Act.put, List.setIfInBounds_toArray, List.set_cons_zero, List.set_cons_succ]
        refine takeW (i := 2) (v := ?v803) rfl (by kernel_rfl) (by kernel_rfl) (by kernel_rfl) (fun _ _ _ h => h) (by kernel_rfl) hHeld ?hy803 ?rest803
        case hy803 => (intro w hSw; (try dsimp only at hSw); go_simp; (try with_reducible rfl))
        try simp only [Act.put, List.setIfInBounds_toArray, List.set_cons_zero, List.set_cons_succ]
        refine takeW (i := 3) (v := ?v804) rfl (by kernel_rfl) (by kernel_rfl) (by kernel_rfl) (fun _ _ _ h => h) (by kernel_rfl) hHeld ?hy804 ?rest804
        case hy804 => (intro w hSw; (try dsimp only at hSw); go_simp; (try with_reducible rfl))
        try simp only [Act.put, List.setIfInBounds_toArray, List.set_cons_zero, List.set_cons_succ]
        refine takeW (i := 4) (v := ?v805) rfl (by kernel_rfl) (by kernel_rfl) (by kernel_rfl) (fun _ _ _ h => h) (by kernel_rfl) hHeld ?hy805 ?rest805
        case hy805 => (intro w hSw; (try dsimp only at hSw); go_simp; (try with_reducible rfl))
        try simp only [Act.put, List.setIfInBounds_toArray, List.set_cons_zero, List.set_cons_succ]
        refine takeW (i := 6) (v := ?v806) rfl (by kernel_rfl) (by kernel_rfl) (by kernel_rfl) (fun _ _ _ h => h) (by kernel_rfl) hHeld ?hy806 ?rest806
        case hy806 => (intro w hSw; (try dsimp only at hSw); go_simp; (try with_reducible rfl))
        try simp only [Act.put, List.setIfInBounds_toArray, List.set_cons_zero, List.set_cons_succ]
        refine wpAnyH_ready (rs := [5]) (by kernel_rfl) (by simp) ?_
        refine consL rfl (by kernel_rfl) (fun K hK => ?_) AllReadyH.nil
        go_simp
        with_reducible refine (cc _).mono ?_
        rintro en w4 ⟨rfl, hb4⟩
        have HQ4 := Lib.hid (HQ.out.drew.later hb4)
        refine hK.out _ _ (HQ4.out.facts) (fun hHeld => ?_)
        clear hK K
        try simp only [Act.put, List.setIfInBounds_toArray, List.set_cons_zero, List.set_cons_succ]
        refine wpAnyH_ready (rs := [7]) (by kernel_rfl) (by simp) ?_
        refine consL rfl (by kernel_rfl) (fun K hK => ?_) AllReadyH.nil
        have hU1 := hU _ HQ4.out.is.map
        unfold kyV at hU1
        go_simp
        have HQ5 := Lib.hid (HQ4.out.put (hV _ HQ4.out.is.map).1 (hV _ HQ4.out.is.map).2)
        refine hK.out _ _ (HQ5.out.facts) (fun hHeld => ?_)
        clear hK K
        try simp only [Act.put, List.setIfInBounds_toArray, List.set_cons_zero, List.set_cons_succ]
        refine wpAnyH_done (by kernel_rfl) ?_ _
        go_wp2_with fail
        go_ret
        exact ⟨rfl, HQ5.out.is, HQ5.out.off⟩
end Go.Proofs.Ytlokhhjhckiloaa.Of
