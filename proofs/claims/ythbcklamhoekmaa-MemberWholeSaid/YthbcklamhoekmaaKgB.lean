/- the document's group: Join, by a contract. No condition but that numbers are small. -/
import Derived.Test.YthbcklamhoekmaaKgA
import Derived.Test.YthbcklamhoekmaaMbAdd
import Derived.BigRegion
import Derived.Test.YthbcklamhoekmaaMbSy
import Derived.Test.YthbcklamhoekmaaAsRo
import Derived.Test.YthbcklamhoekmaaAsRs
import Derived.Test.YthbcklamhoekmaaAsRr
import Derived.Test.YthbcklamhoekmaaAsRc
import Derived.Laws.StructEq
namespace Go.Proofs.Ythbcklamhoekmaa
open Go.RowKit
set_option linter.unusedVariables false
theorem KIs.joined {w : World} {B p g c : Nat} {R : List MV} {G : GD} {k : Nat} {T : List ByteArray} {A : Option Addr} {c2 : Nat} (h : KIs w B p (.slice (some ⟨g, 0, none⟩) R.length c) R G) (hk : k < R.length) (now : Int) (hT : w.ownsRow B 9 1 (.slice A T.length c2) T.length (strC T)) :
    ∃ R', R'.length = R.length ∧ KIs (((w.setCell ⟨g, k * 5 + 1, none⟩ (.slice A T.length c2)).setCell ⟨g, k * 5 + 3, none⟩ (.bool true)).setCell ⟨g, k * 5 + 2, none⟩ (.int .i64 (now + G.ss))) B p (.slice (some ⟨g, 0, none⟩) R.length c) R' (joinAt k T now G) ∧
      Off (GrS p (.slice (some ⟨g, 0, none⟩) R.length c)) w (((w.setCell ⟨g, k * 5 + 1, none⟩ (.slice A T.length c2)).setCell ⟨g, k * 5 + 3, none⟩ (.bool true)).setCell ⟨g, k * 5 + 2, none⟩ (.int .i64 (now + G.ss))) := by
  obtain ⟨x, hx⟩ : ∃ x, R[k]? = some x := ⟨_, List.getElem?_eq_getElem hk⟩
  obtain ⟨h1, o1⟩ := h.field rfl hx (y := ⟨{ x.d with T := T }, .slice A T.length c2, x.pv⟩) 1 (.slice A T.length c2) (by decide) rfl (.inr hT) (.inl ⟨rfl, rfl⟩)
  have hx1 : (R.set k ⟨{ x.d with T := T }, .slice A T.length c2, x.pv⟩)[k]? = some ⟨{ x.d with T := T }, .slice A T.length c2, x.pv⟩ := by rw [List.getElem?_set_self hk]
  obtain ⟨h2, o2⟩ := h1.field (List.length_set ..) hx1 (y := ⟨{ x.d with T := T, j := true }, .slice A T.length c2, x.pv⟩) 3 (.bool true) (by decide) rfl (.inl ⟨rfl, rfl⟩) (.inl ⟨rfl, rfl⟩)
  rw [List.set_set] at h2
  have hx2 : (R.set k ⟨{ x.d with T := T, j := true }, .slice A T.length c2, x.pv⟩)[k]? = some ⟨{ x.d with T := T, j := true }, .slice A T.length c2, x.pv⟩ := by rw [List.getElem?_set_self hk]
  obtain ⟨h3, o3⟩ := h2.field (List.length_set ..) hx2 (y := ⟨{ x.d with T := T, j := true, u := now + G.ss }, .slice A T.length c2, x.pv⟩) 2 (.int .i64 (now + G.ss)) (by decide) rfl (.inl ⟨rfl, rfl⟩) (.inl ⟨rfl, rfl⟩)
  rw [List.set_set] at h3
  have hL : G.L[k]? = some x.d := by rw [← h.abs, List.getElem?_map, hx]; rfl
  have e : joinAt k T now G = { G with L := G.L.set k { x.d with T := T, j := true, u := now + G.ss } } := by unfold joinAt; rw [hL]
  rw [e]
  refine ⟨R.set k ⟨{ x.d with T := T, j := true, u := now + G.ss }, .slice A T.length c2, x.pv⟩, by rw [List.length_set], by simpa [List.set_set] using h3, (o1.trans o2 (fun _ _ e => e)).trans o3 (fun _ _ e => e)⟩

theorem step_append_run {P : Program} {w w' : World} {ops : Array Oper} {o : Oper} {a : Act} {K : Act → World → Prop} {Q : Exit → Act → World → Prop} {E : Prop} (hgd : o.guard = none) (s x : Operand) (t : TypeId) (ho : o.op = .call { callee := .builtin .append, args := #[s, x], argTypes := #[t, t] })
    (v u v' : Value) (hs : a.eval s = v) (hx : a.eval x = u) (hr : (Builtin.append_ #[t, t] o.type #[v, u]).run P w = .ok v' w') (h : K (a.put o.dst v') w') : if Region.wanted o (yielded ops a.tmps) = true then Oper.wp P o a w K Q else E := by
  have hw : Region.wanted o (yielded ops a.tmps) = true := by simp [Region.wanted, hgd]
  rw [if_pos hw]
  unfold Oper.wp execOp
  simp only [ho, resolve, invoke, builtin, Sem.run_bind, Sem.run_pure, Result.andThen_ok, List.map_toArray, List.map_cons, List.map_nil, hs, hx, hr]
  exact h
theorem str_src {w : World} {A : Option Addr} {T : List ByteArray} {c : Nat} (h : StrIn w A T) (hA : A = none → T = []) : SrcZ 1 w (.slice A T.length c) T.length (strC T) := by
  cases A with
  | none =>
    have := hA rfl
    subst this
    exact .inl ⟨c, rfl, rfl, rfl⟩
  | some a =>
    refine .inr ⟨a, c, rfl, strC_len T, fun j y hy => ?_⟩
    have hj : j < T.length := by have := (List.getElem?_eq_some_iff.1 hy).1; rwa [strC_len, Nat.mul_one] at this
    obtain ⟨b, off, e, hlt, hc⟩ := h (by omega)
    injection e with e
    subst e
    rw [add_spot]
    have hT : T[j]? = some T[j] := List.getElem?_eq_getElem hj
    have : y = .string T[j] := by
      unfold strC at hy
      rw [List.getElem?_map, hT] at hy
      simpa using hy.symm
    rw [this]
    exact hc j _ hT
theorem strC_one (T : List ByteArray) : ∀ u ∈ strC T, u.oneCell' = true := by
  intro u hu
  obtain ⟨x, _, rfl⟩ := List.mem_map.1 hu
  rfl
/-- Topics, taken anew by an append to nil. -/
theorem str_cat {w : World} {A : Option Addr} {T : List ByteArray} {c : Nat} (h : StrIn w A T) (hA : A = none → T = []) (hl : T.length ≤ 100000) : ∃ (A' : Option Addr) (c' : Nat) (w' : World), (Builtin.append_ #[22, 22] 22 #[.slice none 0 0, .slice A T.length c]).run Try.prog w = .ok (.slice A' T.length c') w' ∧ w'.ownsRow w.heap.size 9 1 (.slice A' T.length c') T.length (strC T) ∧ Below w.heap.size w w' := by
  obtain ⟨A', c', w', h1, h2, h3⟩ := catZ (by decide) Try.underlying22 infoStr rfl (by decide) (World.ownsRow_nil w w.heap.size 9 1) (str_src h hA) (strC_one T) (Nat.le_refl _) (by omega)
  rw [Nat.zero_add] at h1 h2
  rw [List.nil_append] at h2
  exact ⟨A', c', w', h1, h2, (Below.refl _ w).grown h3 (Nat.le_refl _) (fun j hj => by cases hj)⟩
/-- The group behind the nil. -/
theorem KIs.bare {w : World} {B p g c : Nat} {R : List MV} {G : GD} {k : Nat} (h : KIs w B p (.slice (some ⟨g, 0, none⟩) R.length c) R G) (hk : k < R.length) (T : List ByteArray) (now : Int) :
    ∃ R' G', R'.length = R.length ∧ KIs (w.setCell ⟨g, k * 5 + 1, none⟩ (.slice none 0 0)) B p (.slice (some ⟨g, 0, none⟩) R.length c) R' G' ∧ Off (GrS p (.slice (some ⟨g, 0, none⟩) R.length c)) w (w.setCell ⟨g, k * 5 + 1, none⟩ (.slice none 0 0)) ∧ joinAt k T now G' = joinAt k T now G ∧ G'.ss = G.ss ∧ (w.setCell ⟨g, k * 5 + 1, none⟩ (.slice none 0 0)).cell? ⟨g, k * 5 + 1, none⟩ = some (.slice none 0 0) := by
  obtain ⟨x, hx⟩ : ∃ x, R[k]? = some x := ⟨_, List.getElem?_eq_getElem hk⟩
  obtain ⟨h1, o1⟩ := h.field rfl hx (y := ⟨{ x.d with T := [] }, .slice none 0 0, x.pv⟩) 1 (.slice none 0 0) (by decide) rfl (.inr (World.ownsRow_nil _ _ _ _)) (.inl ⟨rfl, rfl⟩)
  have hq : (w.setCell ⟨g, k * 5 + 1, none⟩ (.slice none 0 0)).cell? ⟨g, k * 5 + 1, none⟩ = some (.slice none 0 0) := by
    obtain ⟨g', c', e, _, _, _, _, q1, _⟩ := h1.at_ (List.getElem?_set_self hk)
    have hgg : g = g' := by simpa [Value.ownBlock] using congrArg Value.ownBlock e
    subst hgg
    exact q1
  refine ⟨_, _, by rw [List.length_set], h1, o1, ?_, rfl, hq⟩
  have hL : G.L[k]? = some x.d := by rw [← h.abs, List.getElem?_map, hx]; rfl
  have hkL : k < G.L.length := (List.getElem?_eq_some_iff.1 hL).1
  unfold joinAt
  rw [hL]
  show (match (G.L.set k { x.d with T := [] })[k]? with | some y => _ | none => _) = _
  rw [List.getElem?_set_self hkL]
  show GD.mk _ _ _ _ ((G.L.set k _).set k _) _ _ = _
  rw [List.set_set]
theorem kAt {w : World} {B p g c : Nat} {R : List MV} {G : GD} {k : Nat} (h : KIs w B p (.slice (some ⟨g, 0, none⟩) R.length c) R G) (hk : k < R.length) : ∃ x u, R[k]? = some x ∧ w.cell? ⟨p, 6, none⟩ = some (.slice (some ⟨g, 0, none⟩) R.length c) ∧ w.cell? ⟨p, 0, none⟩ = some (.int .i64 G.ss) ∧ w.cell? ⟨g, k * 5 + 1, none⟩ = some x.tv ∧ w.cell? ⟨g, k * 5 + 2, none⟩ = some (.int .i64 u) ∧ w.cell? ⟨g, k * 5 + 3, none⟩ = some (.bool x.d.j) ∧ (w.frozen? ⟨g, k * 5 + 1, none⟩ = false ∧ w.frozen? ⟨g, k * 5 + 2, none⟩ = false ∧ w.frozen? ⟨g, k * 5 + 3, none⟩ = false) ∧ p < w.heap.size ∧ g < w.heap.size ∧ g ≠ p := by
  obtain ⟨x, hx⟩ : ∃ x, R[k]? = some x := ⟨_, List.getElem?_eq_getElem hk⟩
  obtain ⟨g', c', e, hgl, _, hgp, _, q1, q2, q3, _, hf⟩ := h.at_ hx
  have hgg : g = g' := by simpa [Value.ownBlock] using congrArg Value.ownBlock e
  subst hgg
  exact ⟨x, x.d.u, hx, (h.box.cell 6).trans rfl, (h.box.cell 0).trans rfl, q1, q2, q3, ⟨hf _, hf _, hf _⟩, h.box.lt, hgl, hgp⟩
/-- Under way. -/
structure KjS (W : World) (B p : Nat) (v0 : Value) (G : GD) (v : Value) (R : List MV) (w : World) : Prop where
  is : KIs w B p v R G
  off : Off (GrS p v0) W w
  val : ∀ k, v.ownBlock = some k → v0.ownBlock = some k ∨ W.heap.size ≤ k
theorem KjS.str {W w w3 w4 : World} {B p : Nat} {v0 v : Value} {G : GD} {R : List MV} {A : Option Addr} {T : List ByteArray} (h : KjS W B p v0 G v R w) (hb : Below w.heap.size w w3) (ho : Off (GrS p v) w3 w4) (hT : StrIn W A T) (hS : 0 < T.length → ∀ a, A = some a → ¬ GrS p v0 a.block) : StrIn w4 A T :=
  ((hT.off h.off hS).below hb).off ho (fun hp a ha hs => by
    obtain ⟨b, off, e, hlt, _⟩ := hT hp
    rw [ha] at e
    injection e with e
    subst e
    rcases hs with e | e
    · exact hS hp _ ha (.inl e)
    · rcases h.val _ e with e2 | e2
      · exact hS hp _ ha (.inr e2)
      · exact absurd hlt (Nat.not_lt.2 e2))
/-- The group behind Topics, Joined and Until. -/
theorem KIs.joined3 {w : World} {B p g c : Nat} {R : List MV} {G : GD} {k : Nat} {T : List ByteArray} {A : Option Addr} {c2 : Nat} (h : KIs w B p (.slice (some ⟨g, 0, none⟩) R.length c) R G) (hk : k < R.length) (now : Int) (hT : w.ownsRow B 9 1 (.slice A T.length c2) T.length (strC T)) :
    ∃ R1 G1, R1.length = R.length ∧ G1.ss = G.ss ∧ KIs ((w.setCell ⟨g, k * 5 + 1, none⟩ (.slice A T.length c2)).setCell ⟨g, k * 5 + 3, none⟩ (.bool true)) B p (.slice (some ⟨g, 0, none⟩) R.length c) R1 G1 ∧
      Off (GrS p (.slice (some ⟨g, 0, none⟩) R.length c)) w ((w.setCell ⟨g, k * 5 + 1, none⟩ (.slice A T.length c2)).setCell ⟨g, k * 5 + 3, none⟩ (.bool true)) ∧
      ∀ w7, KIs w7 B p (.slice (some ⟨g, 0, none⟩) R.length c) R1 G1 → ∃ R', R'.length = R.length ∧ KIs (w7.setCell ⟨g, k * 5 + 2, none⟩ (.int .i64 (now + G.ss))) B p (.slice (some ⟨g, 0, none⟩) R.length c) R' (joinAt k T now G) ∧
      Off (GrS p (.slice (some ⟨g, 0, none⟩) R.length c)) w7 (w7.setCell ⟨g, k * 5 + 2, none⟩ (.int .i64 (now + G.ss))) := by
  obtain ⟨x, hx⟩ : ∃ x, R[k]? = some x := ⟨_, List.getElem?_eq_getElem hk⟩
  obtain ⟨h1, o1⟩ := h.field rfl hx (y := ⟨{ x.d with T := T }, .slice A T.length c2, x.pv⟩) 1 (.slice A T.length c2) (by decide) rfl (.inr hT) (.inl ⟨rfl, rfl⟩)
  have hx1 : (R.set k ⟨{ x.d with T := T }, .slice A T.length c2, x.pv⟩)[k]? = some ⟨{ x.d with T := T }, .slice A T.length c2, x.pv⟩ := by rw [List.getElem?_set_self hk]
  obtain ⟨h2, o2⟩ := h1.field (List.length_set ..) hx1 (y := ⟨{ x.d with T := T, j := true }, .slice A T.length c2, x.pv⟩) 3 (.bool true) (by decide) rfl (.inl ⟨rfl, rfl⟩) (.inl ⟨rfl, rfl⟩)
  rw [List.set_set] at h2
  have hx2 : (R.set k ⟨{ x.d with T := T, j := true }, .slice A T.length c2, x.pv⟩)[k]? = some ⟨{ x.d with T := T, j := true }, .slice A T.length c2, x.pv⟩ := by rw [List.getElem?_set_self hk]
  have hL : G.L[k]? = some x.d := by rw [← h.abs, List.getElem?_map, hx]; rfl
  have e : joinAt k T now G = { G with L := G.L.set k { x.d with T := T, j := true, u := now + G.ss } } := by unfold joinAt; rw [hL]
  refine ⟨_, _, ?_, ?_, h2, o1.trans o2 (fun _ _ e => e), fun w7 h7 => ?_⟩
  · rw [List.length_set]
  · rfl
  obtain ⟨h3, o3⟩ := h7.field (List.length_set ..) hx2 (y := ⟨{ x.d with T := T, j := true, u := now + G.ss }, .slice A T.length c2, x.pv⟩) 2 (.int .i64 (now + G.ss)) (by decide) rfl (.inl ⟨rfl, rfl⟩) (.inl ⟨rfl, rfl⟩)
  rw [List.set_set] at h3
  rw [e]
  refine ⟨R.set k ⟨{ x.d with T := T, j := true, u := now + G.ss }, .slice A T.length c2, x.pv⟩, by rw [List.length_set], by simpa [List.set_set] using h3, o3⟩
theorem KIs.ss_at {w : World} {B p : Nat} {v : Value} {R : List MV} {G : GD} (h : KIs w B p v R G) : w.cell? ⟨p, 0, none⟩ = some (.int .i64 G.ss) := (h.box.cell 0).trans rfl
set_option maxHeartbeats 16000000 in
set_option maxRecDepth 100000 in
theorem kjoin_c (B p : Nat) (v : Value) (R : List MV) (G : GD) (m now : Int) (T : List ByteArray) (A : Option Addr) (c : Nat) (W : World) (h : KIs W B p v R G) (hG : GBd G) (hl : G.L.length ≤ 20) (hgn : 0 ≤ G.gn ∧ G.gn ≤ 999999) (hnx : 0 ≤ G.nx ∧ G.nx ≤ 999999) (hBW : B ≤ W.heap.size)
    (hT : StrIn W A T) (hTA : A = none → T = []) (hTl : T.length ≤ 140737488351232) (hTz : ∀ s ∈ T, s.size ≤ 281474976710656) (hTS : 0 < T.length → ∀ a, A = some a → ¬ GrS p v a.block) :
    Calls Try.prog 37 #[.pointer (some ⟨p, 0, none⟩), .int .i64 m, .slice A T.length c, .int .i64 now] W (KWr B p v W (joinD m T now G) (.tuple #[.int .i64 (if joinE m T now G = 0 then joinM m G else 0), .int .i64 (joinE m T now G)])) := by
  obtain ⟨i0, hi, hz0, hz1, hz2⟩ := info_parts koneInfo
  have ct := fun w => ktime_c now w
  have cw := krises_c T A c W hT hTl
  have HI := Lib.hid h
  have HT := Lib.hid hT
  have HTS := Lib.hid hTS
  have HTA := Lib.hid hTA
  clear hTA
  cases ht : timeB now with
  | false =>
    rw [ht] at ct
    have hE : joinE m T now G = 1 := by unfold joinE; rw [ht]; rfl
    have hD : joinD m T now G = G := by unfold joinD; rw [hE]; rfl
    rw [hE, hD, if_neg (by decide)]
    clear h hG ht hT hTS cw hE hD hTz
    go_enter Try.func37, Try.ntmps37
    go_wp2_with fail
    with_reducible refine (ct _).mono ?_
    rintro e w1 ⟨rfl, hw9⟩
    have hw8 := hw9.symm
    subst hw8
    clear hw9
    go_wp2_with fail
    go_ret2
    exact KWr.mk HI.out (Off.refl _ _) (fun k hk => .inl hk)
  | true =>
    rw [ht] at ct
    have hn := time_bd ht
    cases hr : risesB bL T with
    | false =>
      rw [hr] at cw
      have hw : wantB T = false := by unfold wantB; rw [hr, Bool.and_false]
      have hE : joinE m T now G = 1 := by unfold joinE; rw [ht, hw]; rfl
      have hD : joinD m T now G = G := by unfold joinD; rw [hE]; rfl
      rw [hE, hD, if_neg (by decide)]
      clear h hG ht hT hTS hw hE hD hTz
      go_enter Try.func37, Try.ntmps37
      go_wp2_with fail
      with_reducible refine (ct _).mono ?_
      rintro e w1 ⟨rfl, hw9⟩
      have hw8 := hw9.symm
      subst hw8
      clear hw9
      go_wp2_with fail
      with_reducible refine cw.mono ?_
      rintro e w1 ⟨rfl, nq1, hq1⟩
      have hb1 : Below W.heap.size W w1 := by rw [hq1]; exact below_drewN (Below.refl _ _) _
      clear hq1
      go_wp2_with fail
      go_ret2
      exact KWr.mk (HI.out.later hb1) (Off.of_below _ hb1) (fun k hk => .inl hk)
    | true =>
      rw [hr] at cw
      by_cases hl20 : 20 < T.length
      · have hw : wantB T = false := by unfold wantB; rw [decide_eq_false (by omega)]; rfl
        have hE : joinE m T now G = 1 := by unfold joinE; rw [ht, hw]; rfl
        have hD : joinD m T now G = G := by unfold joinD; rw [hE]; rfl
        have hl20' : (20 : Int) < (T.length : Int) := by omega
        rw [hE, hD, if_neg (by decide)]
        clear h hG ht hT hTS hw hE hD hTz
        go_enter Try.func37, Try.ntmps37
        go_wp2_with fail
        with_reducible refine (ct _).mono ?_
        rintro e w1 ⟨rfl, hw9⟩
        have hw8 := hw9.symm
        subst hw8
        clear hw9
        go_wp2_with fail
        with_reducible refine cw.mono ?_
        rintro e w1 ⟨rfl, nq1, hq1⟩
        have hb1 : Below W.heap.size W w1 := by rw [hq1]; exact below_drewN (Below.refl _ _) _
        clear hq1
        go_wp2_with fail
        go_ret2
        exact KWr.mk (HI.out.later hb1) (Off.of_below _ hb1) (fun k hk => .inl hk)
      have hw : wantB T = true := by unfold wantB; rw [hr, decide_eq_true (by omega)]; rfl
      have hl20' : ¬ (20 : Int) < (T.length : Int) := by omega
      by_cases hm1 : m < -1
      · have hE : joinE m T now G = 1 := by unfold joinE; rw [ht, hw, decide_eq_false (by omega)]; rfl
        have hD : joinD m T now G = G := by unfold joinD; rw [hE]; rfl
        rw [hE, hD, if_neg (by decide)]
        clear h hG ht hT hTS hw hE hD hTz
        go_enter Try.func37, Try.ntmps37
        go_wp2_with fail
        with_reducible refine (ct _).mono ?_
        rintro e w1 ⟨rfl, hw9⟩
        have hw8 := hw9.symm
        subst hw8
        clear hw9
        go_wp2_with fail
        with_reducible refine cw.mono ?_
        rintro e w1 ⟨rfl, nq1, hq1⟩
        have hb1 : Below W.heap.size W w1 := by rw [hq1]; exact below_drewN (Below.refl _ _) _
        clear hq1
        go_wp2_with fail
        go_ret2
        exact KWr.mk (HI.out.later hb1) (Off.of_below _ hb1) (fun k hk => .inl hk)
      have hE0 : joinE m T now G = if m = -1 then (if 20 ≤ G.L.length then 5 else 0) else match posM m G.L with | none => 11 | some _ => 0 := by unfold joinE; rw [ht, hw, decide_eq_true (by omega)]; rfl
      have cf := fun w (hb : Below W.heap.size W w) m' => kfind_c B p v R G m' w (h.later hb) hG.len
      by_cases hmm : m = -1
      · subst hmm
        rw [if_pos rfl] at hE0
        by_cases hfull : 20 ≤ G.L.length
        · rw [if_pos hfull] at hE0
          have hD : joinD (-1) T now G = G := by unfold joinD; rw [hE0]; rfl
          rw [hE0, hD, if_neg (by decide)]
          have hlen : (20 : Int) ≤ (R.length : Int) := by rw [h.len]; omega
          obtain ⟨A9, c9, hv⟩ := own_slice h.row
          subst hv
          clear h hG ht hT hTS hw hE0 hD hTz cf hfull hl
          go_enter Try.func37, Try.ntmps37
          go_wp2_with fail
          with_reducible refine (ct _).mono ?_
          rintro e w1 ⟨rfl, hw9⟩
          have hw8 := hw9.symm
          subst hw8
          clear hw9
          go_wp2_with fail
          with_reducible refine cw.mono ?_
          rintro e w1 ⟨rfl, nq1, hq1⟩
          have hb1 : Below W.heap.size W w1 := by rw [hq1]; exact below_drewN (Below.refl _ _) _
          clear hq1
          have h1 := HI.out.later hb1
          obtain ⟨b0, b1, b2, b3, b4, b5, b6, bl, _⟩ := kg7 h1.box
          have HB1 := Lib.hid hb1
          clear h1 hb1
          go_wp2_with fail
          go_ret2
          exact KWr.mk (HI.out.later HB1.out) (Off.of_below _ HB1.out) (fun k hk => .inl hk)
        · rw [if_neg hfull] at hE0
          obtain ⟨k0, hk0⟩ := pos_add G
          have hR20 : ¬ (20 : Int) ≤ (R.length : Int) := by rw [h.len]; omega
          have hHG : G.L.length < 20 := by omega
          have hRR : R.length < 20 := by rw [h.len]; omega
          have HE := Lib.hid hE0
          rw [hE0, if_pos rfl, show joinM (-1) G = G.nx from rfl]
          have hG0 := Lib.hid hG
          have hK0 := Lib.hid hk0
          obtain ⟨A9, c9, hv9⟩ := own_slice h.row
          subst hv9
          clear h ht hT hTS hw hE0 cf hfull hl hk0 hG
          go_enter Try.func37, Try.ntmps37
          go_wp2_with fail
          with_reducible refine (ct _).mono ?_
          rintro e w1 ⟨rfl, hw9⟩
          have hw8 := hw9.symm
          subst hw8
          clear hw9
          go_wp2_with fail
          with_reducible refine cw.mono ?_
          rintro e w1 ⟨rfl, nq1, hq1⟩
          have hb1 : Below W.heap.size W w1 := by rw [hq1]; exact below_drewN (Below.refl _ _) _
          clear hq1
          have h1 := HI.out.later hb1
          have HBx := Lib.hid hb1
          obtain ⟨b0, b1, b2, b3, b4, b5, b6, bl, f2, f3, f4, f5, f6⟩ := kg7 h1.box
          have o1 := Off.one w1 ⟨p, 4, none⟩ (.int .i64 (G.nx + 1))
          have hA1 : Below (w1.setCell ⟨p, 4, none⟩ (.int .i64 (G.nx + 1))).heap.size (w1.setCell ⟨p, 4, none⟩ (.int .i64 (G.nx + 1))) ((w1.setCell ⟨p, 4, none⟩ (.int .i64 (G.nx + 1))).alloc (.cells (mvC (newV G.nx)).toArray 91)) := (Below.refl _ _).alloc (Nat.le_refl _) _
          have h2 := (h1.put (G' := { G with nx := G.nx + 1 }) o1 (h1.box.set 4 (.int .i64 (G.nx + 1))) rfl).later hA1
          have hnews := news_at (Box.new (w1.setCell ⟨p, 4, none⟩ (.int .i64 (G.nx + 1))) 91 (mvC (newV G.nx)).toArray)
          have H1 := Lib.hid h2
          have hrow := h2.row
          have O1 := Lib.hid (o1.later hA1)
          have hsz : B ≤ ((w1.setCell ⟨p, 4, none⟩ (.int .i64 (G.nx + 1))).alloc (.cells (mvC (newV G.nx)).toArray 91)).heap.size := Nat.le_trans (Nat.le_trans hBW hb1.size) O1.out.size
          obtain ⟨x0, x1, x2, x3, x4, x5, x6, xl, y2, y3, y4, y5, y6⟩ := kg7 h2.box
          have hzc : (w1.setCell ⟨p, 4, none⟩ (.int .i64 (G.nx + 1))).heap.size = w1.heap.size := by simp
          rw [hzc] at hnews
          clear h1 h2 o1 hA1 hzc hb1
          unfold mvC newV at hnews hrow H1 O1 hsz x0 x1 x2 x3 x4 x5 x6 xl y2 y3 y4 y5 y6
          dsimp only at hnews hrow H1 O1 hsz x0 x1 x2 x3 x4 x5 x6 xl y2 y3 y4 y5 y6
          go_wp2_with (at_builtin; refine wpList_append_own_at _ rfl _ _ 46 rfl B 91 i0 (.agg #[.int .i64 0, .slice none 0 0, .int .i64 0, .bool false, .slice none 0 0]) 5 72 Try.underlying46 hi hz0 hz1 hz2 rfl (by decide) (.slice A9 R.length c9) R.length (mvR R) rfl hrow ⟨w1.heap.size, 0, none⟩ 1 1 [.int .i64 G.nx, .slice none 0 0, .int .i64 0, .bool false, .slice none 0 0] rfl rfl hnews (by simp [Value.oneCell']) (by unfold maxLen; omega) (by omega) hsz ?_)
          intro v' w5 hown' hgrow _ hat
          obtain ⟨A', c', rfl⟩ := own_slice hown'
          have hpb : (Value.slice A9 R.length c9).ownBlock ≠ some p := fun e => own_ne hrow H1.out.box (by decide) p e rfl
          have hp5 := (hgrow.block p xl (fun e => hpb e.symm)).trans H1.out.box
          obtain ⟨b0, b1, b2, b3, b4, b5, b6, bl, f2, f3, f4, f5, f6⟩ := kg7 (show Box w5 p 48 _ from hp5)
          have o2 := (((Off.refl (GrS p (.slice A9 R.length c9)) _).grown hgrow (fun k e _ => .inr e))).set (p := ⟨p, 6, none⟩) (.inl (.inl rfl)) (.slice A' (R.length + 1) c')
          have oT := ((O1.out.mono (fun k _ e => (.inl e : GrS p (.slice A9 R.length c9) k)))).trans o2 (fun k _ e => e)
          have JX : KjS W B p (.slice A9 R.length c9) (addD G) (.slice A' (R.length + 1) c') (R ++ [newV G.nx]) (w5.setCell ⟨p, 6, none⟩ (.slice A' (R.length + 1) c')) := by
            refine ⟨?_, (Off.of_below (GrS p (.slice A9 R.length c9)) HBx.out).trans oT (fun _ _ e => e), fun k hk => ?_⟩
            · refine H1.out.rows2 (S := GrS p (.slice A9 R.length c9)) (G' := addD G) o2 (fun k e => .inl e) (Box.set hp5 6 _) ?_ (fun x hx => ?_) ?_
              · rw [List.length_append, mvR_app]
                exact own_off hown' (Off.one w5 ⟨p, 6, none⟩ _) (fun k hk e => own_ne hown' hp5 (by decide) k hk e)
              · rcases List.mem_append.1 hx with hx | hx
                · exact ⟨.inl ⟨x, hx, rfl, rfl⟩, .inl ⟨x, hx, rfl, rfl⟩⟩
                · have : x = newV G.nx := by simpa using hx
                  subst this
                  exact ⟨.inr (World.ownsRow_nil _ _ _ _), .inr (World.ownsRow_nil _ _ _ _)⟩
              · rw [List.map_append, HI.out.abs]; rfl
            · rcases hat with e | e
              · rw [e] at hk; exact .inl hk
              · rw [e] at hk
                injection hk with hk
                exact .inr (by have := HBx.out.size; omega)
          obtain ⟨v1, R1, J1⟩ : ∃ v1 R1, Hid (KjS W B p (.slice A9 R.length c9) (addD G) v1 R1 (w5.setCell ⟨p, 6, none⟩ (.slice A' (R.length + 1) c'))) := ⟨_, _, Lib.hid JX⟩
          clear JX o2 oT hp5 hpb hown' hgrow hat hnews x0 x1 x2 x3 x4 x5 x6 xl y2 y3 y4 y5 y6 hrow O1 H1
          have HM : Hid (joinM (-1) G = G.nx) := Lib.hid rfl
          have H1D : Hid (join1D (-1) G = addD G) := Lib.hid rfl
          have hG1 : GBd (addD G) := ⟨by show (G.L ++ _).length ≤ 100000; simp; omega, hG0.out.ss, hG0.out.rb⟩
          have hgn1 : 0 ≤ (addD G).gn ∧ (addD G).gn ≤ 1000000 := ⟨hgn.1, by have := hgn.2; show G.gn ≤ 1000000; omega⟩
          have hk1 := hK0.out
          replace b2 : w5.cell? ⟨p, 2, none⟩ = some (.int .i64 (addD G).ph) := b2
          generalize addD G = G1 at *
          have hG1b := hG1
          obtain ⟨G2, hG2e⟩ : ∃ G2, join2D now G1 = G2 := ⟨_, rfl⟩
          have hk2 : posM G.nx G2.L = some k0 := by rw [← hG2e, pos_join2]; exact hk1
          have HD : Hid (joinD (-1) T now G = wholeD now (joinAt k0 T now G2)) := Lib.hid (by unfold joinD; rw [HE.out, if_pos rfl, HM.out, H1D.out, hG2e]; unfold join3D; rw [hk2])
          have hG2 : GBd G2 := by
            rw [← hG2e]
            unfold join2D
            split
            · exact hG1
            · exact hG1.begin now
          have hgn2 : 0 ≤ G2.gn ∧ G2.gn ≤ 1000000 := by
            have e : G2.gn = G1.gn := by
              rw [← hG2e]
              unfold join2D
              split
              · rfl
              · exact beginD_gn _ _
            rw [e]; exact hgn1
          clear hk1 hgn1 HE HM H1D
          by_cases hph : G1.ph = 1
          · have hph' : (G1.ph == 1) = true := by rw [show G1.ph = 1 from hph]; rfl
            have e2 : join2D now G1 = G1 := by unfold join2D; rw [if_pos hph]
            rw [e2] at hG2e
            subst hG2e
            clear e2 hph
            have J2 := J1
            clear J1
            obtain ⟨x2, hx2, _⟩ := pos_at hk2
            have hkR : k0 < R1.length := by rw [J2.out.is.len]; exact (List.getElem?_eq_some_iff.1 hx2).1
            obtain ⟨g2, c2, ev2, -⟩ := J2.out.is.at_ (List.getElem?_eq_getElem hkR)
            subst ev2
            have cfk := fun w hh => kfind_c B p (.slice (some ⟨g2, 0, none⟩) R1.length c2) R1 G1 G.nx w hh hG2.len
            rw [posI_some hk2] at cfk
            have cfk2 := cfk _ J2.out.is
            clear hx2 hk2 cfk
            go_wp2_with fail
            with_reducible refine cfk2.mono ?_
            rintro e w3 ⟨rfl, hb3⟩
            have I3 := Lib.hid (J2.out.is.later hb3)
            have O3 := Lib.hid (J2.out.off.later hb3)
            obtain ⟨R4, G4, hR4, h4, o4, hj4, hs4, hq4⟩ := I3.out.bare hkR T now
            have T4 := Lib.hid (J2.out.str hb3 o4 HT.out HTS.out)
            obtain ⟨x3, u3, _, q6, q0, q1, q2, q3, ⟨qf1, qf2, qf3⟩, qpl, qgl, qgp⟩ := kAt I3.out hkR
            have H4 := Lib.hid h4
            have O4 := Lib.hid (O3.out.two o4 J2.out.val)
            clear hb3 cfk2 b0 b1 b2 b3 b4 b5 b6 bl
            have hkR4 : k0 < R4.length := by rw [hR4]; exact hkR
            go_wp2_with fail
            obtain ⟨W4, hW4⟩ : ∃ W4, w3.setCell ⟨g2, k0 * 5 + 1, none⟩ (.slice none 0 0) = W4 := ⟨_, rfl⟩
            rw [hW4] at H4 O4 T4 hq4 ⊢
            rw [← hR4] at H4
            have V4 : Hid (∀ k, (Value.slice (some ⟨g2, 0, none⟩) R4.length c2).ownBlock = some k → (Value.slice A9 R.length c9).ownBlock = some k ∨ W.heap.size ≤ k) := Lib.hid (by rw [hR4]; exact J2.out.val)
            clear hW4 q6 q0 q1 q2 q3 qf1 qf2 qf3 qpl qgl h4 o4
            have hbd : Below W4.heap.size W4 W4.drew := (Below.refl _ _).drew
            have h4d := H4.out.later hbd
            obtain ⟨x4, u4, -, d6, d0, -, d2, d3, ⟨df1, df2, df3⟩, dpl, dgl, dgp⟩ := kAt h4d hkR4
            have d1 : W4.drew.cell? ⟨g2, k0 * 5 + 1, none⟩ = some (.slice none 0 0) := hq4
            have hTl5 : T.length ≤ 100000 := by omega
            obtain ⟨A5, c5, w5, hrun5, hown5, hb5⟩ := str_cat (c := c) (T4.out.below hbd) HTA.out hTl5
            have h5 := h4d.later hb5
            obtain ⟨x5, u5, -, e6, e0, -, e2, e3, ⟨ef1, ef2, ef3⟩, epl, egl, egp⟩ := kAt h5 hkR4
            have e1 : w5.cell? ⟨g2, k0 * 5 + 1, none⟩ = some (.slice none 0 0) := (cell_later ⟨d1, dgl⟩ hb5).1
            have H5 := Lib.hid h5
            have HOW := Lib.hid hown5
            have HB5 := Lib.hid (hbd.trans (hb5.mono hbd.size))
            clear h4d hbd hown5 hb5 h5
            have hss2 : G4.ss = G1.ss := hs4
            obtain ⟨R6, G6, hR6, hs6, h6, o6, hfin⟩ := H5.out.joined3 hkR4 now (own_base2 HOW.out (Nat.le_trans hBW O4.out.size))
            rw [hss2, hj4] at hfin
            have HFIN := Lib.hid hfin
            have H6 := Lib.hid h6
            have HS6 : Hid (G6.ss = G1.ss) := Lib.hid (hs6.trans hss2)
            have HR6 := Lib.hid hR6
            have HGJ := Lib.hid (hG1.joinAt k0 T now)
            have HGN : Hid (0 ≤ (joinAt k0 T now G1).gn ∧ (joinAt k0 T now G1).gn ≤ 1000000) := Lib.hid (by rw [joinAt_gn]; exact hgn2)
            have hw : IntKind.i64.wrap (now + G1.ss) = now + G1.ss := by have := hG1.ss; rw [IntKind.wrap_i64]; omega
            have O6 := Lib.hid ((O4.out.later HB5.out).two o6 V4.out)
            clear h6 o6 hfin hs6 hR6 hj4 hs4 hss2
            generalize joinAt k0 T now G1 = G8 at *
            have HGJb := HGJ.out
            have HKR := Lib.hid hkR4
            generalize hi5 : k0 * 5 = i5 at *
            go_region_law (refine step_append_run rfl (.tmp 96) (.tmp 97) 22 rfl (.slice none 0 0) (.slice A T.length c) (.slice A5 T.length c5) (by simp [Act.eval]) (by simp [Act.eval]) hrun5 ?_)
            all_goals
              clear hrun5 d6 d0 d1 d2 d3 df1 df2 df3 dpl dgl dgp
              go_wp2_with fail
              obtain ⟨W6, hW6⟩ : ∃ W6, (w5.setCell ⟨g2, i5 + 1, none⟩ (.slice A5 T.length c5)).setCell ⟨g2, i5 + 3, none⟩ (.bool true) = W6 := ⟨_, rfl⟩
              rw [hW6] at H6 O6 ⊢
              clear hW6 e6 e0 e1 e2 e3 ef1 ef2 ef3 epl egl egp
              have hbd : Below W6.heap.size W6 W6.drew := (Below.refl _ _).drew
              obtain ⟨R8, hR8, h8a, o8a⟩ := HFIN.out _ H6.out
              have hbd8 : Below (W6.setCell ⟨g2, i5 + 2, none⟩ (.int .i64 (now + G1.ss))).heap.size (W6.setCell ⟨g2, i5 + 2, none⟩ (.int .i64 (now + G1.ss))) (W6.setCell ⟨g2, i5 + 2, none⟩ (.int .i64 (now + G1.ss))).drew := (Below.refl _ _).drew
              have h8 := h8a.later hbd8
              have o8 := o8a.later hbd8
              have h6d := H6.out.later hbd
              rw [← HR6.out] at h6d
              have hkR6 : k0 < R6.length := by rw [HR6.out]; exact hkR4
              obtain ⟨x6, u6, -, s6, s0, -, s2, s3, ⟨sf1, sf2, sf3⟩, spl, sgl, sgp⟩ := kAt h6d hkR6
              rw [HS6.out] at s0
              rw [hi5] at s2 s3 sf1 sf2 sf3
              have O8 := Lib.hid (O6.out.two o8 V4.out)
              have ca := kall_c B p _ R8 G8 _ h8 HGJb.len
              have H8 := Lib.hid h8
              clear h8 o8 hbd h6d hR8 h8a o8a hbd8
              go_region
              all_goals
                clear s6 s0 s2 s3 sf1 sf2 sf3 spl sgl sgp
                cases hA : G8.L.any (fun x => !x.j) with
                | true =>
                  rw [hA] at ca
                  go_wp2_with fail
                  with_reducible refine ca.mono ?_
                  rintro e w9 ⟨rfl, hb9⟩
                  go_wp2_with fail
                  go_ret2
                  exact ⟨rfl, .slice (some ⟨g2, 0, none⟩) R4.length c2, R8, by rw [HD.out]; unfold wholeD; rw [if_pos hA]; exact H8.out.later hb9, O8.out.later hb9, V4.out⟩
                | false =>
                  rw [hA] at ca
                  go_wp2_with fail
                  with_reducible refine ca.mono ?_
                  rintro e w9 ⟨rfl, hb9⟩
                  have O9 := Lib.hid (O8.out.later hb9)
                  have cc9 := kclose_c B p _ R8 G8 now _ (H8.out.later hb9) HGJb (Nat.le_trans hBW O9.out.size) hn HGN.out
                  clear hb9
                  go_wp2_with fail
                  with_reducible refine cc9.mono ?_
                  rintro e w10 ⟨rfl, v10, R10, h10, o10, hv10⟩
                  go_wp2_with fail
                  go_ret2
                  exact ⟨rfl, v10, R10, by rw [HD.out]; unfold wholeD; rw [if_neg (by rw [hA]; decide)]; exact h10, O9.out.two o10 V4.out, own_two2 O9.out.size V4.out hv10⟩
          · have hph' : (G1.ph == 1) = false := beq_eq_false_iff_ne.2 hph
            have e2 : join2D now G1 = beginD now G1 := by unfold join2D; rw [if_neg hph]
            rw [e2] at hG2e
            clear e2 hph
            have cb := kanew_c B p _ _ _ now _ J1.out.is hG1 hn
            rw [hG2e] at cb
            clear hG2e
            go_wp2_with fail
            with_reducible refine cb.mono ?_
            rintro e w2 ⟨rfl, v2, R2, h2, o2, hv2⟩
            have J2 : Hid (KjS W B p (.slice A9 R.length c9) G2 v2 R2 w2) := Lib.hid ⟨h2, J1.out.off.two o2 J1.out.val, own_two2 J1.out.off.size J1.out.val hv2⟩
            clear h2 o2 hv2 cb J1 b0 b1 b2 b3 b4 b5 b6 bl f2 f3 f4 f5 f6
            obtain ⟨b0, b1, b2, b3, b4, b5, b6, bl, _⟩ := kg7 J2.out.is.box
            obtain ⟨x2, hx2, _⟩ := pos_at hk2
            have hkR : k0 < R2.length := by rw [J2.out.is.len]; exact (List.getElem?_eq_some_iff.1 hx2).1
            obtain ⟨g2, c2, ev2, -⟩ := J2.out.is.at_ (List.getElem?_eq_getElem hkR)
            subst ev2
            have cfk := fun w hh => kfind_c B p (.slice (some ⟨g2, 0, none⟩) R2.length c2) R2 G2 G.nx w hh hG2.len
            rw [posI_some hk2] at cfk
            have cfk2 := cfk _ J2.out.is
            clear hx2 hk2 cfk
            go_wp2_with fail
            with_reducible refine cfk2.mono ?_
            rintro e w3 ⟨rfl, hb3⟩
            have I3 := Lib.hid (J2.out.is.later hb3)
            have O3 := Lib.hid (J2.out.off.later hb3)
            obtain ⟨R4, G4, hR4, h4, o4, hj4, hs4, hq4⟩ := I3.out.bare hkR T now
            have T4 := Lib.hid (J2.out.str hb3 o4 HT.out HTS.out)
            obtain ⟨x3, u3, _, q6, q0, q1, q2, q3, ⟨qf1, qf2, qf3⟩, qpl, qgl, qgp⟩ := kAt I3.out hkR
            have H4 := Lib.hid h4
            have O4 := Lib.hid (O3.out.two o4 J2.out.val)
            clear hb3 cfk2 b0 b1 b2 b3 b4 b5 b6 bl
            have hkR4 : k0 < R4.length := by rw [hR4]; exact hkR
            go_wp2_with fail
            obtain ⟨W4, hW4⟩ : ∃ W4, w3.setCell ⟨g2, k0 * 5 + 1, none⟩ (.slice none 0 0) = W4 := ⟨_, rfl⟩
            rw [hW4] at H4 O4 T4 hq4 ⊢
            rw [← hR4] at H4
            have V4 : Hid (∀ k, (Value.slice (some ⟨g2, 0, none⟩) R4.length c2).ownBlock = some k → (Value.slice A9 R.length c9).ownBlock = some k ∨ W.heap.size ≤ k) := Lib.hid (by rw [hR4]; exact J2.out.val)
            clear hW4 q6 q0 q1 q2 q3 qf1 qf2 qf3 qpl qgl h4 o4
            have hbd : Below W4.heap.size W4 W4.drew := (Below.refl _ _).drew
            have h4d := H4.out.later hbd
            obtain ⟨x4, u4, -, d6, d0, -, d2, d3, ⟨df1, df2, df3⟩, dpl, dgl, dgp⟩ := kAt h4d hkR4
            have d1 : W4.drew.cell? ⟨g2, k0 * 5 + 1, none⟩ = some (.slice none 0 0) := hq4
            have hTl5 : T.length ≤ 100000 := by omega
            obtain ⟨A5, c5, w5, hrun5, hown5, hb5⟩ := str_cat (c := c) (T4.out.below hbd) HTA.out hTl5
            have h5 := h4d.later hb5
            obtain ⟨x5, u5, -, e6, e0, -, e2, e3, ⟨ef1, ef2, ef3⟩, epl, egl, egp⟩ := kAt h5 hkR4
            have e1 : w5.cell? ⟨g2, k0 * 5 + 1, none⟩ = some (.slice none 0 0) := (cell_later ⟨d1, dgl⟩ hb5).1
            have H5 := Lib.hid h5
            have HOW := Lib.hid hown5
            have HB5 := Lib.hid (hbd.trans (hb5.mono hbd.size))
            clear h4d hbd hown5 hb5 h5
            have hss2 : G4.ss = G2.ss := hs4
            obtain ⟨R6, G6, hR6, hs6, h6, o6, hfin⟩ := H5.out.joined3 hkR4 now (own_base2 HOW.out (Nat.le_trans hBW O4.out.size))
            rw [hss2, hj4] at hfin
            have HFIN := Lib.hid hfin
            have H6 := Lib.hid h6
            have HS6 : Hid (G6.ss = G2.ss) := Lib.hid (hs6.trans hss2)
            have HR6 := Lib.hid hR6
            have HGJ := Lib.hid (hG2.joinAt k0 T now)
            have HGN : Hid (0 ≤ (joinAt k0 T now G2).gn ∧ (joinAt k0 T now G2).gn ≤ 1000000) := Lib.hid (by rw [joinAt_gn]; exact hgn2)
            have hw : IntKind.i64.wrap (now + G2.ss) = now + G2.ss := by have := hG2.ss; rw [IntKind.wrap_i64]; omega
            have O6 := Lib.hid ((O4.out.later HB5.out).two o6 V4.out)
            clear h6 o6 hfin hs6 hR6 hj4 hs4 hss2
            generalize joinAt k0 T now G2 = G8 at *
            have HGJb := HGJ.out
            have HKR := Lib.hid hkR4
            generalize hi5 : k0 * 5 = i5 at *
            go_region_law (refine step_append_run rfl (.tmp 96) (.tmp 97) 22 rfl (.slice none 0 0) (.slice A T.length c) (.slice A5 T.length c5) (by simp [Act.eval]) (by simp [Act.eval]) hrun5 ?_)
            all_goals
              clear hrun5 d6 d0 d1 d2 d3 df1 df2 df3 dpl dgl dgp
              go_wp2_with fail
              obtain ⟨W6, hW6⟩ : ∃ W6, (w5.setCell ⟨g2, i5 + 1, none⟩ (.slice A5 T.length c5)).setCell ⟨g2, i5 + 3, none⟩ (.bool true) = W6 := ⟨_, rfl⟩
              rw [hW6] at H6 O6 ⊢
              clear hW6 e6 e0 e1 e2 e3 ef1 ef2 ef3 epl egl egp
              have hbd : Below W6.heap.size W6 W6.drew := (Below.refl _ _).drew
              obtain ⟨R8, hR8, h8a, o8a⟩ := HFIN.out _ H6.out
              have hbd8 : Below (W6.setCell ⟨g2, i5 + 2, none⟩ (.int .i64 (now + G2.ss))).heap.size (W6.setCell ⟨g2, i5 + 2, none⟩ (.int .i64 (now + G2.ss))) (W6.setCell ⟨g2, i5 + 2, none⟩ (.int .i64 (now + G2.ss))).drew := (Below.refl _ _).drew
              have h8 := h8a.later hbd8
              have o8 := o8a.later hbd8
              have h6d := H6.out.later hbd
              rw [← HR6.out] at h6d
              have hkR6 : k0 < R6.length := by rw [HR6.out]; exact hkR4
              obtain ⟨x6, u6, -, s6, s0, -, s2, s3, ⟨sf1, sf2, sf3⟩, spl, sgl, sgp⟩ := kAt h6d hkR6
              rw [HS6.out] at s0
              rw [hi5] at s2 s3 sf1 sf2 sf3
              have O8 := Lib.hid (O6.out.two o8 V4.out)
              have ca := kall_c B p _ R8 G8 _ h8 HGJb.len
              have H8 := Lib.hid h8
              clear h8 o8 hbd h6d hR8 h8a o8a hbd8
              go_region
              all_goals
                clear s6 s0 s2 s3 sf1 sf2 sf3 spl sgl sgp
                cases hA : G8.L.any (fun x => !x.j) with
                | true =>
                  rw [hA] at ca
                  go_wp2_with fail
                  with_reducible refine ca.mono ?_
                  rintro e w9 ⟨rfl, hb9⟩
                  go_wp2_with fail
                  go_ret2
                  exact ⟨rfl, .slice (some ⟨g2, 0, none⟩) R4.length c2, R8, by rw [HD.out]; unfold wholeD; rw [if_pos hA]; exact H8.out.later hb9, O8.out.later hb9, V4.out⟩
                | false =>
                  rw [hA] at ca
                  go_wp2_with fail
                  with_reducible refine ca.mono ?_
                  rintro e w9 ⟨rfl, hb9⟩
                  have O9 := Lib.hid (O8.out.later hb9)
                  have cc9 := kclose_c B p _ R8 G8 now _ (H8.out.later hb9) HGJb (Nat.le_trans hBW O9.out.size) hn HGN.out
                  clear hb9
                  go_wp2_with fail
                  with_reducible refine cc9.mono ?_
                  rintro e w10 ⟨rfl, v10, R10, h10, o10, hv10⟩
                  go_wp2_with fail
                  go_ret2
                  exact ⟨rfl, v10, R10, by rw [HD.out]; unfold wholeD; rw [if_neg (by rw [hA]; decide)]; exact h10, O9.out.two o10 V4.out, own_two2 O9.out.size V4.out hv10⟩
      · rw [if_neg hmm] at hE0
        have hmm' : (m == -1) = false := beq_eq_false_iff_ne.2 hmm
        have hm0 : 0 ≤ m := by omega
        cases hpo : posM m G.L with
        | none =>
          rw [hpo] at hE0
          have hD : joinD m T now G = G := by unfold joinD; rw [hE0]; rfl
          rw [hE0, hD, if_neg (by decide)]
          clear h hG ht hT hTS hw hE0 hD hTz hmm hm1 hl
          go_enter Try.func37, Try.ntmps37
          go_wp2_with fail
          with_reducible refine (ct _).mono ?_
          rintro e w1 ⟨rfl, hw9⟩
          have hw8 := hw9.symm
          subst hw8
          clear hw9
          go_wp2_with fail
          with_reducible refine cw.mono ?_
          rintro e w1 ⟨rfl, nq1, hq1⟩
          have hb1 : Below W.heap.size W w1 := by rw [hq1]; exact below_drewN (Below.refl _ _) _
          clear hq1
          have HB1 := Lib.hid hb1
          have cf1 := cf _ hb1 m
          rw [posI_none hpo] at cf1
          clear cf hpo hb1
          go_wp2_with fail
          with_reducible refine cf1.mono ?_
          rintro e w2 ⟨rfl, hb2⟩
          go_wp2_with fail
          go_ret2
          exact KWr.mk (HI.out.later (HB1.out.trans (hb2.mono HB1.out.size))) (Off.of_below _ (HB1.out.trans (hb2.mono HB1.out.size))) (fun k hk => .inl hk)
        | some k0 =>
          rw [hpo] at hE0
          dsimp only at hE0
          have HE := Lib.hid hE0
          rw [hE0, if_pos rfl, show joinM m G = m by unfold joinM; rw [if_neg hmm]]
          have hk1 := hpo
          have HM : Hid (joinM m G = m) := Lib.hid (by unfold joinM; rw [if_neg hmm])
          have H1D : Hid (join1D m G = G) := Lib.hid (by unfold join1D; rw [if_neg hmm])
          have hgn1 : 0 ≤ G.gn ∧ G.gn ≤ 1000000 := ⟨hgn.1, by have := hgn.2; omega⟩
          have cf0 := fun w hb => cf w hb m
          rw [posI_some hpo] at cf0
          clear h ht hT hTS hw hE0 cf hl hpo hmm hm1
          go_enter Try.func37, Try.ntmps37
          go_wp2_with fail
          with_reducible refine (ct _).mono ?_
          rintro e w1 ⟨rfl, hw9⟩
          have hw8 := hw9.symm
          subst hw8
          clear hw9
          go_wp2_with fail
          with_reducible refine cw.mono ?_
          rintro e w1 ⟨rfl, nq1, hq1⟩
          have hb1 : Below W.heap.size W w1 := by rw [hq1]; exact below_drewN (Below.refl _ _) _
          clear hq1
          have HB1 := Lib.hid hb1
          have cf1 := cf0 _ hb1
          clear cf0 hb1
          go_wp2_with fail
          with_reducible refine cf1.mono ?_
          rintro e w2 ⟨rfl, hb2⟩
          have hBt := HB1.out.trans (hb2.mono HB1.out.size)
          obtain ⟨v1, R1, J1⟩ : ∃ v1 R1, Hid (KjS W B p v G v1 R1 w2) := ⟨v, R, Lib.hid ⟨HI.out.later hBt, Off.of_below _ hBt, fun k hk => .inl hk⟩⟩
          clear hb2 hBt cf1
          obtain ⟨b0, b1, b2, b3, b4, b5, b6, bl, _⟩ := kg7 J1.out.is.box
          have hGb := hG
          obtain ⟨G2, hG2e⟩ : ∃ G2, join2D now G = G2 := ⟨_, rfl⟩
          have hk2 : posM m G2.L = some k0 := by rw [← hG2e, pos_join2]; exact hk1
          have HD : Hid (joinD m T now G = wholeD now (joinAt k0 T now G2)) := Lib.hid (by unfold joinD; rw [HE.out, if_pos rfl, HM.out, H1D.out, hG2e]; unfold join3D; rw [hk2])
          have hG2 : GBd G2 := by
            rw [← hG2e]
            unfold join2D
            split
            · exact hG
            · exact hG.begin now
          have hgn2 : 0 ≤ G2.gn ∧ G2.gn ≤ 1000000 := by
            have e : G2.gn = G.gn := by
              rw [← hG2e]
              unfold join2D
              split
              · rfl
              · exact beginD_gn _ _
            rw [e]; exact hgn1
          clear hk1 hgn1 HE HM H1D
          by_cases hph : G.ph = 1
          · have hph' : (G.ph == 1) = true := by rw [show G.ph = 1 from hph]; rfl
            have e2 : join2D now G = G := by unfold join2D; rw [if_pos hph]
            rw [e2] at hG2e
            subst hG2e
            clear e2 hph
            have J2 := J1
            clear J1
            obtain ⟨x2, hx2, _⟩ := pos_at hk2
            have hkR : k0 < R1.length := by rw [J2.out.is.len]; exact (List.getElem?_eq_some_iff.1 hx2).1
            obtain ⟨g2, c2, ev2, -⟩ := J2.out.is.at_ (List.getElem?_eq_getElem hkR)
            subst ev2
            have cfk := fun w hh => kfind_c B p (.slice (some ⟨g2, 0, none⟩) R1.length c2) R1 G m w hh hG2.len
            rw [posI_some hk2] at cfk
            have cfk2 := cfk _ J2.out.is
            clear hx2 hk2 cfk
            go_wp2_with fail
            with_reducible refine cfk2.mono ?_
            rintro e w3 ⟨rfl, hb3⟩
            have I3 := Lib.hid (J2.out.is.later hb3)
            have O3 := Lib.hid (J2.out.off.later hb3)
            obtain ⟨R4, G4, hR4, h4, o4, hj4, hs4, hq4⟩ := I3.out.bare hkR T now
            have T4 := Lib.hid (J2.out.str hb3 o4 HT.out HTS.out)
            obtain ⟨x3, u3, _, q6, q0, q1, q2, q3, ⟨qf1, qf2, qf3⟩, qpl, qgl, qgp⟩ := kAt I3.out hkR
            have H4 := Lib.hid h4
            have O4 := Lib.hid (O3.out.two o4 J2.out.val)
            clear hb3 cfk2 b0 b1 b2 b3 b4 b5 b6 bl
            have hkR4 : k0 < R4.length := by rw [hR4]; exact hkR
            go_wp2_with fail
            obtain ⟨W4, hW4⟩ : ∃ W4, w3.setCell ⟨g2, k0 * 5 + 1, none⟩ (.slice none 0 0) = W4 := ⟨_, rfl⟩
            rw [hW4] at H4 O4 T4 hq4 ⊢
            rw [← hR4] at H4
            have V4 : Hid (∀ k, (Value.slice (some ⟨g2, 0, none⟩) R4.length c2).ownBlock = some k → (v).ownBlock = some k ∨ W.heap.size ≤ k) := Lib.hid (by rw [hR4]; exact J2.out.val)
            clear hW4 q6 q0 q1 q2 q3 qf1 qf2 qf3 qpl qgl h4 o4
            have hbd : Below W4.heap.size W4 W4.drew := (Below.refl _ _).drew
            have h4d := H4.out.later hbd
            obtain ⟨x4, u4, -, d6, d0, -, d2, d3, ⟨df1, df2, df3⟩, dpl, dgl, dgp⟩ := kAt h4d hkR4
            have d1 : W4.drew.cell? ⟨g2, k0 * 5 + 1, none⟩ = some (.slice none 0 0) := hq4
            have hTl5 : T.length ≤ 100000 := by omega
            obtain ⟨A5, c5, w5, hrun5, hown5, hb5⟩ := str_cat (c := c) (T4.out.below hbd) HTA.out hTl5
            have h5 := h4d.later hb5
            obtain ⟨x5, u5, -, e6, e0, -, e2, e3, ⟨ef1, ef2, ef3⟩, epl, egl, egp⟩ := kAt h5 hkR4
            have e1 : w5.cell? ⟨g2, k0 * 5 + 1, none⟩ = some (.slice none 0 0) := (cell_later ⟨d1, dgl⟩ hb5).1
            have H5 := Lib.hid h5
            have HOW := Lib.hid hown5
            have HB5 := Lib.hid (hbd.trans (hb5.mono hbd.size))
            clear h4d hbd hown5 hb5 h5
            have hss2 : G4.ss = G.ss := hs4
            obtain ⟨R6, G6, hR6, hs6, h6, o6, hfin⟩ := H5.out.joined3 hkR4 now (own_base2 HOW.out (Nat.le_trans hBW O4.out.size))
            rw [hss2, hj4] at hfin
            have HFIN := Lib.hid hfin
            have H6 := Lib.hid h6
            have HS6 : Hid (G6.ss = G.ss) := Lib.hid (hs6.trans hss2)
            have HR6 := Lib.hid hR6
            have HGJ := Lib.hid (hG.joinAt k0 T now)
            have HGN : Hid (0 ≤ (joinAt k0 T now G).gn ∧ (joinAt k0 T now G).gn ≤ 1000000) := Lib.hid (by rw [joinAt_gn]; exact hgn2)
            have hw : IntKind.i64.wrap (now + G.ss) = now + G.ss := by have := hG.ss; rw [IntKind.wrap_i64]; omega
            have O6 := Lib.hid ((O4.out.later HB5.out).two o6 V4.out)
            clear h6 o6 hfin hs6 hR6 hj4 hs4 hss2
            generalize joinAt k0 T now G = G8 at *
            have HGJb := HGJ.out
            have HKR := Lib.hid hkR4
            generalize hi5 : k0 * 5 = i5 at *
            go_region_law (refine step_append_run rfl (.tmp 96) (.tmp 97) 22 rfl (.slice none 0 0) (.slice A T.length c) (.slice A5 T.length c5) (by simp [Act.eval]) (by simp [Act.eval]) hrun5 ?_)
            all_goals
              clear hrun5 d6 d0 d1 d2 d3 df1 df2 df3 dpl dgl dgp
              go_wp2_with fail
              obtain ⟨W6, hW6⟩ : ∃ W6, (w5.setCell ⟨g2, i5 + 1, none⟩ (.slice A5 T.length c5)).setCell ⟨g2, i5 + 3, none⟩ (.bool true) = W6 := ⟨_, rfl⟩
              rw [hW6] at H6 O6 ⊢
              clear hW6 e6 e0 e1 e2 e3 ef1 ef2 ef3 epl egl egp
              have hbd : Below W6.heap.size W6 W6.drew := (Below.refl _ _).drew
              obtain ⟨R8, hR8, h8a, o8a⟩ := HFIN.out _ H6.out
              have hbd8 : Below (W6.setCell ⟨g2, i5 + 2, none⟩ (.int .i64 (now + G.ss))).heap.size (W6.setCell ⟨g2, i5 + 2, none⟩ (.int .i64 (now + G.ss))) (W6.setCell ⟨g2, i5 + 2, none⟩ (.int .i64 (now + G.ss))).drew := (Below.refl _ _).drew
              have h8 := h8a.later hbd8
              have o8 := o8a.later hbd8
              have h6d := H6.out.later hbd
              rw [← HR6.out] at h6d
              have hkR6 : k0 < R6.length := by rw [HR6.out]; exact hkR4
              obtain ⟨x6, u6, -, s6, s0, -, s2, s3, ⟨sf1, sf2, sf3⟩, spl, sgl, sgp⟩ := kAt h6d hkR6
              rw [HS6.out] at s0
              rw [hi5] at s2 s3 sf1 sf2 sf3
              have O8 := Lib.hid (O6.out.two o8 V4.out)
              have ca := kall_c B p _ R8 G8 _ h8 HGJb.len
              have H8 := Lib.hid h8
              clear h8 o8 hbd h6d hR8 h8a o8a hbd8
              go_region
              all_goals
                clear s6 s0 s2 s3 sf1 sf2 sf3 spl sgl sgp
                cases hA : G8.L.any (fun x => !x.j) with
                | true =>
                  rw [hA] at ca
                  go_wp2_with fail
                  with_reducible refine ca.mono ?_
                  rintro e w9 ⟨rfl, hb9⟩
                  go_wp2_with fail
                  go_ret2
                  exact ⟨rfl, .slice (some ⟨g2, 0, none⟩) R4.length c2, R8, by rw [HD.out]; unfold wholeD; rw [if_pos hA]; exact H8.out.later hb9, O8.out.later hb9, V4.out⟩
                | false =>
                  rw [hA] at ca
                  go_wp2_with fail
                  with_reducible refine ca.mono ?_
                  rintro e w9 ⟨rfl, hb9⟩
                  have O9 := Lib.hid (O8.out.later hb9)
                  have cc9 := kclose_c B p _ R8 G8 now _ (H8.out.later hb9) HGJb (Nat.le_trans hBW O9.out.size) hn HGN.out
                  clear hb9
                  go_wp2_with fail
                  with_reducible refine cc9.mono ?_
                  rintro e w10 ⟨rfl, v10, R10, h10, o10, hv10⟩
                  go_wp2_with fail
                  go_ret2
                  exact ⟨rfl, v10, R10, by rw [HD.out]; unfold wholeD; rw [if_neg (by rw [hA]; decide)]; exact h10, O9.out.two o10 V4.out, own_two2 O9.out.size V4.out hv10⟩
          · have hph' : (G.ph == 1) = false := beq_eq_false_iff_ne.2 hph
            have e2 : join2D now G = beginD now G := by unfold join2D; rw [if_neg hph]
            rw [e2] at hG2e
            clear e2 hph
            have cb := kanew_c B p _ _ _ now _ J1.out.is hG hn
            rw [hG2e] at cb
            clear hG2e
            go_wp2_with fail
            with_reducible refine cb.mono ?_
            rintro e w2y ⟨rfl, v2, R2, h2, o2, hv2⟩
            have J2 : Hid (KjS W B p v G2 v2 R2 w2y) := Lib.hid ⟨h2, J1.out.off.two o2 J1.out.val, own_two2 J1.out.off.size J1.out.val hv2⟩
            clear h2 o2 hv2 cb J1 b0 b1 b2 b3 b4 b5 b6 bl
            obtain ⟨b0, b1, b2, b3, b4, b5, b6, bl, _⟩ := kg7 J2.out.is.box
            obtain ⟨x2, hx2, _⟩ := pos_at hk2
            have hkR : k0 < R2.length := by rw [J2.out.is.len]; exact (List.getElem?_eq_some_iff.1 hx2).1
            obtain ⟨g2, c2, ev2, -⟩ := J2.out.is.at_ (List.getElem?_eq_getElem hkR)
            subst ev2
            have cfk := fun w hh => kfind_c B p (.slice (some ⟨g2, 0, none⟩) R2.length c2) R2 G2 m w hh hG2.len
            rw [posI_some hk2] at cfk
            have cfk2 := cfk _ J2.out.is
            clear hx2 hk2 cfk
            go_wp2_with fail
            with_reducible refine cfk2.mono ?_
            rintro e w3 ⟨rfl, hb3⟩
            have I3 := Lib.hid (J2.out.is.later hb3)
            have O3 := Lib.hid (J2.out.off.later hb3)
            obtain ⟨R4, G4, hR4, h4, o4, hj4, hs4, hq4⟩ := I3.out.bare hkR T now
            have T4 := Lib.hid (J2.out.str hb3 o4 HT.out HTS.out)
            obtain ⟨x3, u3, _, q6, q0, q1, q2, q3, ⟨qf1, qf2, qf3⟩, qpl, qgl, qgp⟩ := kAt I3.out hkR
            have H4 := Lib.hid h4
            have O4 := Lib.hid (O3.out.two o4 J2.out.val)
            clear hb3 cfk2 b0 b1 b2 b3 b4 b5 b6 bl
            have hkR4 : k0 < R4.length := by rw [hR4]; exact hkR
            go_wp2_with fail
            obtain ⟨W4, hW4⟩ : ∃ W4, w3.setCell ⟨g2, k0 * 5 + 1, none⟩ (.slice none 0 0) = W4 := ⟨_, rfl⟩
            rw [hW4] at H4 O4 T4 hq4 ⊢
            rw [← hR4] at H4
            have V4 : Hid (∀ k, (Value.slice (some ⟨g2, 0, none⟩) R4.length c2).ownBlock = some k → (v).ownBlock = some k ∨ W.heap.size ≤ k) := Lib.hid (by rw [hR4]; exact J2.out.val)
            clear hW4 q6 q0 q1 q2 q3 qf1 qf2 qf3 qpl qgl h4 o4
            have hbd : Below W4.heap.size W4 W4.drew := (Below.refl _ _).drew
            have h4d := H4.out.later hbd
            obtain ⟨x4, u4, -, d6, d0, -, d2, d3, ⟨df1, df2, df3⟩, dpl, dgl, dgp⟩ := kAt h4d hkR4
            have d1 : W4.drew.cell? ⟨g2, k0 * 5 + 1, none⟩ = some (.slice none 0 0) := hq4
            have hTl5 : T.length ≤ 100000 := by omega
            obtain ⟨A5, c5, w5, hrun5, hown5, hb5⟩ := str_cat (c := c) (T4.out.below hbd) HTA.out hTl5
            have h5 := h4d.later hb5
            obtain ⟨x5, u5, -, e6, e0, -, e2, e3, ⟨ef1, ef2, ef3⟩, epl, egl, egp⟩ := kAt h5 hkR4
            have e1 : w5.cell? ⟨g2, k0 * 5 + 1, none⟩ = some (.slice none 0 0) := (cell_later ⟨d1, dgl⟩ hb5).1
            have H5 := Lib.hid h5
            have HOW := Lib.hid hown5
            have HB5 := Lib.hid (hbd.trans (hb5.mono hbd.size))
            clear h4d hbd hown5 hb5 h5
            have hss2 : G4.ss = G2.ss := hs4
            obtain ⟨R6, G6, hR6, hs6, h6, o6, hfin⟩ := H5.out.joined3 hkR4 now (own_base2 HOW.out (Nat.le_trans hBW O4.out.size))
            rw [hss2, hj4] at hfin
            have HFIN := Lib.hid hfin
            have H6 := Lib.hid h6
            have HS6 : Hid (G6.ss = G2.ss) := Lib.hid (hs6.trans hss2)
            have HR6 := Lib.hid hR6
            have HGJ := Lib.hid (hG2.joinAt k0 T now)
            have HGN : Hid (0 ≤ (joinAt k0 T now G2).gn ∧ (joinAt k0 T now G2).gn ≤ 1000000) := Lib.hid (by rw [joinAt_gn]; exact hgn2)
            have hw : IntKind.i64.wrap (now + G2.ss) = now + G2.ss := by have := hG2.ss; rw [IntKind.wrap_i64]; omega
            have O6 := Lib.hid ((O4.out.later HB5.out).two o6 V4.out)
            clear h6 o6 hfin hs6 hR6 hj4 hs4 hss2
            generalize joinAt k0 T now G2 = G8 at *
            have HGJb := HGJ.out
            have HKR := Lib.hid hkR4
            generalize hi5 : k0 * 5 = i5 at *
            go_region_law (refine step_append_run rfl (.tmp 96) (.tmp 97) 22 rfl (.slice none 0 0) (.slice A T.length c) (.slice A5 T.length c5) (by simp [Act.eval]) (by simp [Act.eval]) hrun5 ?_)
            all_goals
              clear hrun5 d6 d0 d1 d2 d3 df1 df2 df3 dpl dgl dgp
              go_wp2_with fail
              obtain ⟨W6, hW6⟩ : ∃ W6, (w5.setCell ⟨g2, i5 + 1, none⟩ (.slice A5 T.length c5)).setCell ⟨g2, i5 + 3, none⟩ (.bool true) = W6 := ⟨_, rfl⟩
              rw [hW6] at H6 O6 ⊢
              clear hW6 e6 e0 e1 e2 e3 ef1 ef2 ef3 epl egl egp
              have hbd : Below W6.heap.size W6 W6.drew := (Below.refl _ _).drew
              obtain ⟨R8, hR8, h8a, o8a⟩ := HFIN.out _ H6.out
              have hbd8 : Below (W6.setCell ⟨g2, i5 + 2, none⟩ (.int .i64 (now + G2.ss))).heap.size (W6.setCell ⟨g2, i5 + 2, none⟩ (.int .i64 (now + G2.ss))) (W6.setCell ⟨g2, i5 + 2, none⟩ (.int .i64 (now + G2.ss))).drew := (Below.refl _ _).drew
              have h8 := h8a.later hbd8
              have o8 := o8a.later hbd8
              have h6d := H6.out.later hbd
              rw [← HR6.out] at h6d
              have hkR6 : k0 < R6.length := by rw [HR6.out]; exact hkR4
              obtain ⟨x6, u6, -, s6, s0, -, s2, s3, ⟨sf1, sf2, sf3⟩, spl, sgl, sgp⟩ := kAt h6d hkR6
              rw [HS6.out] at s0
              rw [hi5] at s2 s3 sf1 sf2 sf3
              have O8 := Lib.hid (O6.out.two o8 V4.out)
              have ca := kall_c B p _ R8 G8 _ h8 HGJb.len
              have H8 := Lib.hid h8
              clear h8 o8 hbd h6d hR8 h8a o8a hbd8
              go_region
              all_goals
                clear s6 s0 s2 s3 sf1 sf2 sf3 spl sgl sgp
                cases hA : G8.L.any (fun x => !x.j) with
                | true =>
                  rw [hA] at ca
                  go_wp2_with fail
                  with_reducible refine ca.mono ?_
                  rintro e w9 ⟨rfl, hb9⟩
                  go_wp2_with fail
                  go_ret2
                  exact ⟨rfl, .slice (some ⟨g2, 0, none⟩) R4.length c2, R8, by rw [HD.out]; unfold wholeD; rw [if_pos hA]; exact H8.out.later hb9, O8.out.later hb9, V4.out⟩
                | false =>
                  rw [hA] at ca
                  go_wp2_with fail
                  with_reducible refine ca.mono ?_
                  rintro e w9 ⟨rfl, hb9⟩
                  have O9 := Lib.hid (O8.out.later hb9)
                  have cc9 := kclose_c B p _ R8 G8 now _ (H8.out.later hb9) HGJb (Nat.le_trans hBW O9.out.size) hn HGN.out
                  clear hb9
                  go_wp2_with fail
                  with_reducible refine cc9.mono ?_
                  rintro e w10 ⟨rfl, v10, R10, h10, o10, hv10⟩
                  go_wp2_with fail
                  go_ret2
                  exact ⟨rfl, v10, R10, by rw [HD.out]; unfold wholeD; rw [if_neg (by rw [hA]; decide)]; exact h10, O9.out.two o10 V4.out, own_two2 O9.out.size V4.out hv10⟩
end Go.Proofs.Ythbcklamhoekmaa
/- the document's group: Sync, by a contract. No condition but that numbers are small. -/
namespace Go.Proofs.Ythbcklamhoekmaa
open Go.RowKit
set_option linter.unusedVariables false
/-- What the document's Sync gives. -/
def KGot (B p : Nat) (v : Value) (W : World) (G' : GD) (err : Int) (e : Ending) (w' : World) : Prop :=
  ∃ A c P, e = .returned (.tuple #[.slice A P.length c, .int .i64 err]) ∧ w'.ownsRow B 56 2 (.slice A P.length c) P.length (prtC P) ∧ ∃ v' R', KIs w' B p v' R' G' ∧ Off (GrS p v) W w' ∧ ∀ k, v'.ownBlock = some k → v.ownBlock = some k ∨ W.heap.size ≤ k
theorem KGot.no {B p : Nat} {v v' : Value} {W w' : World} {R' : List MV} {G' : GD} {err : Int} (h : KIs w' B p v' R' G') (ho : Off (GrS p v) W w') (hv : ∀ k, v'.ownBlock = some k → v.ownBlock = some k ∨ W.heap.size ≤ k) : KGot B p v W G' err (.returned (.tuple #[.slice none 0 0, .int .i64 err])) w' :=
  ⟨none, 0, [], rfl, World.ownsRow_nil _ _ _ _, v', R', h, ho, hv⟩
theorem lead_zero {m : Int} {L : List MD} {G : GD} (hL : G.L = L) (h : posM m L = some 0) : m = leadM G := by
  obtain ⟨x, hx, hn⟩ := pos_at h
  subst hL
  unfold leadM
  cases hl : G.L with
  | nil => rw [hl] at hx; cases hx
  | cons y l =>
    rw [hl] at hx
    have : y = x := by simpa using hx
    rw [← hn, this]
theorem lead_more {m : Int} {G : GD} {k : Nat} (h : posM m G.L = some (k + 1)) : m ≠ leadM G := by
  intro e
  have h2 := h
  cases hl : G.L with
  | nil => rw [hl] at h2; cases h2
  | cons y l =>
    have hy : y.n = m := by rw [e]; unfold leadM; rw [hl]
    rw [hl] at h2
    unfold posM at h2
    rw [List.findIdx?_cons] at h2
    simp [hy] at h2
/-- A member's wishes behind those ahead of it. -/
theorem app_sub {W wr wl : World} {R : List MV} {k e0 : Nat} {B1 : Option Addr} {x : MV} {tA : Option Addr} {tn tc : Nat} (h : RowS W 78 2 (.slice B1 k e0) k (subC (R.take k)) wr) (hx : R[k]? = some x) (ht : x.tv = .slice tA tn tc) (hk : k ≤ 1000) (hwl : wl = (wr.alloc (.cells #[.int .i64 x.d.n, .slice tA tn tc] 78)).drew) :
    ∃ A' c' w', (Builtin.append_ #[79, 79] 79 #[.slice B1 k e0, .slice (some ⟨wr.heap.size, 0, none⟩) 1 1]).run Try.prog wl = .ok (.slice A' (k + 1) c') w' ∧ RowS W 78 2 (.slice A' (k + 1) c') (k + 1) (subC (R.take (k + 1))) w' := by
  have o1 := (h.later ((Below.refl _ _).alloc (Nat.le_refl _) (.cells #[.int .i64 x.d.n, .slice tA tn tc] 78))).later ((Below.refl _ _).drew)
  rw [← hwl] at o1
  have hsrc : SrcZ 2 wl (.slice (some ⟨wr.heap.size, 0, none⟩) 1 1) 1 [.int .i64 x.d.n, .slice tA tn tc] := by
    refine .inr ⟨_, _, rfl, rfl, fun j y hy => ?_⟩
    rw [add_spot, Nat.zero_add, hwl]
    exact ((Box.new wr 78 #[.int .i64 x.d.n, .slice tA tn tc]).cell j).trans (by simpa using hy)
  obtain ⟨A2, c2, w2, r2, o2, g2⟩ := catZ (by decide) Try.underlying79 infoSub rfl (by decide) o1.row hsrc (fun u hu => by
    rcases List.mem_cons.1 hu with rfl | hu
    · rfl
    · have := List.mem_singleton.1 hu
      subst this
      rfl) o1.bel.size (by omega)
  refine ⟨A2, c2, w2, r2, ?_⟩
  rw [subC_succ hx, ht]
  exact o1.grow o2 g2
/-- Dealing under way. -/
structure KDs (W : World) (B p : Nat) (v : Value) (R : List MV) (G : GD) (b : Nat) (vs : Value) (D : Nat → List TX) (Rs : List (Int × Value)) (k : Nat) (w : World) : Prop where
  le : k ≤ R.length
  is : KIs w B p v (dpR D Rs R k) { G with L := (dpR D Rs R k).map MV.d }
  sh : ShIs b w vs Rs D
  off : Off (GrS p v) W w
theorem KDs.later {W : World} {B p b k : Nat} {v vs : Value} {R : List MV} {G : GD} {D : Nat → List TX} {Rs : List (Int × Value)} {w w' : World} (h : KDs W B p v R G b vs D Rs k w) (hb : Below w.heap.size w w') : KDs W B p v R G b vs D Rs k w' := ⟨h.le, h.is.later hb, h.sh.later hb, h.off.later hb⟩
theorem KDs.drew9 {W : World} {B p b k : Nat} {v vs : Value} {R : List MV} {G : GD} {D : Nat → List TX} {Rs : List (Int × Value)} {w : World} (h : KDs W B p v R G b vs D Rs k w) : KDs W B p v R G b vs D Rs k w.drew := h.later ((Below.refl _ _).drew)
theorem KDs.step {W : World} {B p g c b k : Nat} {vs : Value} {R : List MV} {G : GD} {D : Nat → List TX} {Rs : List (Int × Value)} {w : World} {x : MV} {r : Int × Value} (h : KDs W B p (.slice (some ⟨g, 0, none⟩) R.length c) R G b vs D Rs k w) (hx : R[k]? = some x) (hr : Rs[k]? = some r) (hB : B ≤ b) (hg : g < b) :
    KDs W B p (.slice (some ⟨g, 0, none⟩) R.length c) R G b vs D Rs (k + 1) (w.setCell ⟨g, k * 5 + 4, none⟩ r.2) := by
  have hl := (List.getElem?_eq_some_iff.1 hx).1
  have hpk := own_base2 (h.sh.parts k r hr) hB
  obtain ⟨h1, o1⟩ := h.is.field dpR_len (dpR_at hx) (y := dpX D Rs (k + 1) k x) 4 r.2 (by decide) (by unfold dpX mvC; rw [if_pos (by omega), hr]; rfl) (.inl (by unfold dpX; rw [if_pos (by omega)]; exact ⟨rfl, rfl⟩)) (.inr (by unfold dpX; rw [if_pos (by omega), hr]; exact hpk))
  rw [dpR_step hx] at h1
  refine ⟨by omega, h1.abs2 rfl, h.sh.off (Off.one w ⟨g, k * 5 + 4, none⟩ r.2) (fun i e => .inl (by rw [show i = g from e]; exact hg)), h.off.trans o1 (fun _ _ e => e)⟩
theorem hearD_n (k : Nat) (now : Int) (G : GD) : (hearD k now G).L.map (·.n) = G.L.map (·.n) := by
  unfold hearD
  cases hx : G.L[k]? with
  | none => rfl
  | some x =>
    show (G.L.set k _).map _ = _
    apply List.ext_getElem?
    intro j
    rw [List.getElem?_map, List.getElem?_map]
    by_cases e : k = j
    · subst e
      rw [List.getElem?_set_self (List.getElem?_eq_some_iff.1 hx).1, hx]
      rfl
    · rw [List.getElem?_set_ne e]
theorem posM_n (m : Int) (L : List MD) : posM m L = (L.map (·.n)).findIdx? (fun y => decide (y = m)) := by
  unfold posM
  rw [List.findIdx?_map]
  rfl
set_option maxHeartbeats 16000000 in
set_option maxRecDepth 100000 in
theorem ksync_c (B p : Nat) (v : Value) (R : List MV) (G : GD) (m gen now : Int) (T : List TX) (A2 : Option Addr) (c2 : Nat) (round : Bool) (W : World) (h : KIs W B p v R G) (hG : GBd G) (hl : G.L.length ≤ 20) (hBW : B ≤ W.heap.size) (hTL : ∀ x ∈ G.L, x.T.length ≤ 100000)
    (hT : TpIn W A2 T) (hTl : T.length ≤ 140737488351232) (hTz : ∀ t ∈ T, t.1.size ≤ 281474976710656) (hTS : 0 < T.length → ∀ a, A2 = some a → ¬ GrS p v a.block) :
    Calls Try.prog 38 #[.pointer (some ⟨p, 0, none⟩), .int .i64 m, .int .i64 gen, .slice A2 T.length c2, .bool round, .int .i64 now] W (KGot B p v W (syncD m gen T round now G) (syncE m gen T now G)) := by
  have ct := fun w => ktime_c now w
  have ck := kknows_c B p v R G m gen W h hG.len
  have HI := Lib.hid h
  have HT := Lib.hid hT
  have HTS := Lib.hid hTS
  cases ht : timeB now with
  | false =>
    rw [ht] at ct
    have hE : syncE m gen T now G = 1 := by unfold syncE; rw [ht]; rfl
    have hD : syncD m gen T round now G = G := by unfold syncD; rw [ht]; rfl
    rw [hE, hD]
    clear h hG ht hE hD hTL hTz hT hTS ck
    go_enter Try.func38, Try.ntmps38
    go_wp2_with fail
    with_reducible refine (ct _).mono ?_
    rintro e w1 ⟨rfl, hw9⟩
    have hw8 := hw9.symm
    subst hw8
    clear hw9
    go_wp2_with fail
    go_ret2
    exact KGot.no HI.out (Off.refl _ _) (fun k hk => .inl hk)
  | true =>
    rw [ht] at ct
    have hn := time_bd ht
    by_cases hK : knowE m gen G = 0
    · rw [hK] at ck
      obtain ⟨k, hk⟩ := name_pos (know_name hK)
      have hkR : k < R.length := by
        obtain ⟨x, hx, _⟩ := pos_at hk
        rw [h.len]; exact (List.getElem?_eq_some_iff.1 hx).1
      obtain ⟨g, c, ev, -⟩ := h.at_ (List.getElem?_eq_getElem hkR)
      have cf := fun w (hb : Below W.heap.size W w) => kfind_c B p v R G m w (h.later hb) hG.len
      rw [posI_some hk] at cf
      subst ev
      have hE : syncE m gen T now G = sync2E m T (hearD k now G) := by unfold syncE; rw [ht, hK, hk]; rfl
      have hD : syncD m gen T round now G = sync2D m T round (hearD k now G) := by unfold syncD; rw [if_pos ⟨ht, hK⟩, hk]
      rw [hE, hD]
      obtain ⟨G1, hG1⟩ : ∃ G1, hearD k now G = G1 := ⟨_, rfl⟩
      have hl1 : G1.L.length ≤ 20 := by rw [← hG1, hearD_len]; exact hl
      have hTL1 : ∀ x ∈ G1.L, x.T.length ≤ 100000 := by rw [← hG1]; exact hearD_T (C := fun T => T.length ≤ 100000) hTL
      have hkp : posM m G1.L = some k := by rw [← hG1, posM_n, hearD_n, ← posM_n]; exact hk
      rw [hG1]
      have hss := hG.ss
      have hk0 : (0 : Int) ≤ (k : Int) := by omega
      have hk1 : (k : Int) < (R.length : Int) := by omega
      have HH : Hid (∀ w, KIs w B p (.slice (some ⟨g, 0, none⟩) R.length c) R G → ∃ R', R'.length = R.length ∧ KIs (w.setCell ⟨g, k * 5 + 2, none⟩ (.int .i64 (now + G.ss))) B p (.slice (some ⟨g, 0, none⟩) R.length c) R' G1 ∧ Off (GrS p (.slice (some ⟨g, 0, none⟩) R.length c)) w (w.setCell ⟨g, k * 5 + 2, none⟩ (.int .i64 (now + G.ss)))) := Lib.hid (fun w hw => by rw [← hG1]; exact hw.hear hkR now)
      obtain ⟨b0, b1, b2, b3, b4, b5, b6, bl, _⟩ := kg7 h.box
      have HS : Hid (∀ w, KIs w B p (.slice (some ⟨g, 0, none⟩) R.length c) R G → ∃ u, w.cell? ⟨p, 0, none⟩ = some (.int .i64 G.ss) ∧ w.cell? ⟨p, 6, none⟩ = some (.slice (some ⟨g, 0, none⟩) R.length c) ∧ w.cell? ⟨g, k * 5 + 2, none⟩ = some (.int .i64 u) ∧ w.frozen? ⟨g, k * 5 + 2, none⟩ = false ∧ p < w.heap.size ∧ g < w.heap.size) := Lib.hid (fun w hw => hw.hr hkR)
      have HKP := Lib.hid hkp
      clear h hG ht hE hD hTL hT hTS hK hk hG1 hl hkp
      by_cases hph : G1.ph = 2
      · have hph' : (G1.ph == 2) = true := by rw [hph]; rfl
        by_cases hkk : k = 0
        · have hm : m = leadM G1 := lead_zero rfl (by rw [← hkk]; exact HKP.out)
          have e2D : sync2D m T round G1 = dealD T round G1 := by unfold sync2D; rw [if_pos hph, if_pos hm]
          have e2E : sync2E m T G1 = dealE G1.L T := by unfold sync2E; rw [if_pos hph, if_pos hm]
          have hkneg : ¬ (0 : Int) < (k : Int) := by omega
          rw [e2D, e2E]
          clear hph e2D e2E hkk hm
          cases round with
          | false =>
            go_enter Try.func38, Try.ntmps38
            go_wp2_with fail
            with_reducible refine (ct _).mono ?_
            rintro e w1 ⟨rfl, hw9⟩
            have hw8 := hw9.symm
            subst hw8
            clear hw9
            go_wp2_with fail
            with_reducible refine ck.mono ?_
            rintro e w2 ⟨rfl, hb2⟩
            have HB2 := Lib.hid hb2
            have cf2 := cf _ hb2
            clear hb2 cf ct ck
            go_wp2_with fail
            with_reducible refine cf2.mono ?_
            rintro e w3 ⟨rfl, hb3⟩
            have HB3 := Lib.hid (HB2.out.trans (hb3.mono HB2.out.size))
            have hbd : Below w3.heap.size w3 w3.drew := (Below.refl _ _).drew
            have I3d := HI.out.later (HB3.out.trans (hbd.mono HB3.out.size))
            obtain ⟨u3, s1, s2, s3, s4, s5, s6⟩ := HS.out _ I3d
            obtain ⟨R4, hR4, h4a, o4a⟩ := HH.out _ (HI.out.later HB3.out)
            have hbd8 : Below (w3.setCell ⟨g, k * 5 + 2, none⟩ (.int .i64 (now + G.ss))).heap.size (w3.setCell ⟨g, k * 5 + 2, none⟩ (.int .i64 (now + G.ss))) (w3.setCell ⟨g, k * 5 + 2, none⟩ (.int .i64 (now + G.ss))).drew := (Below.refl _ _).drew
            have h4 := h4a.later hbd8
            have H4 := Lib.hid h4
            have O4 := Lib.hid (((Off.of_below (GrS p (.slice (some ⟨g, 0, none⟩) R.length c)) HB3.out).trans o4a (fun _ _ e => e)).later hbd8)
            obtain ⟨z0, z1, z2, z3, z4, z5, z6, zl, _⟩ := kg7 h4.box
            have HR4 := Lib.hid hR4
            have hw : IntKind.i64.wrap (now + G.ss) = now + G.ss := by rw [IntKind.wrap_i64]; omega
            clear hb3 h4a o4a hR4 cf2 I3d hbd hbd8
            have hlenR : R4.length = G1.L.length := h4.len
            have HST : Hid (stripS (subsV R4) = subsD G1.L) := Lib.hid (subs_strip h4.abs)
            have hT4 : TpIn _ A2 T := (fun hp => by
              obtain ⟨b, off, e, hlt, hc⟩ := HT.out hp
              exact ⟨b, off, e, Nat.lt_of_lt_of_le hlt O4.out.size, fun j x hx => ⟨(O4.out.cell (p := ⟨b, off + j * 2, none⟩) hlt (HTS.out hp ⟨b, off, none⟩ e)).trans (hc j x hx).1, (O4.out.cell (p := ⟨b, off + j * 2 + 1, none⟩) hlt (HTS.out hp ⟨b, off, none⟩ e)).trans (hc j x hx).2⟩⟩ : TpIn (w3.setCell ⟨g, k * 5 + 2, none⟩ (.int .i64 (now + G.ss))).drew A2 T)
            have HT4 := Lib.hid hT4
            have hlR : R4.length ≤ 20 := by omega
            have hSl : (subsV R4).length ≤ 140737488351232 := by rw [subsV_len]; omega
            have hSz : ∀ x ∈ subsV R4, x.2.1.length ≤ 140737488351232 := fun x hx => by
              unfold subsV at hx
              obtain ⟨y, hy, rfl⟩ := List.mem_map.1 hx
              have := hTL1 y.d (by rw [← h4.abs]; exact List.mem_map_of_mem hy)
              show y.d.T.length ≤ _
              omega
            have h4x := h4
            clear hT4 h4 hlenR
            generalize hi5 : k * 5 = i5 at *
            go_wp2_with fail
            go_region
            all_goals
              clear s1 s2 s3 s4 s5 s6
              generalize (w3.setCell ⟨g, i5 + 2, none⟩ (.int .i64 (now + G.ss))).drew = W4 at *
              have HR0 := Lib.hid (RowS.start W4 78 2)
              clear h4x
              rw [← HR4.out] at H4 z6
              go_wp2_with fail
              have hdk : decide (0 < k) = false := decide_eq_false (by omega)
              rw [hdk]
              clear hdk hkneg
              go_loopw [16, 17] (fun a j wr => ∃ (k : Nat) (B1 : Option Addr) (e : Nat), j = .int .i64 k ∧ k ≤ R4.length ∧ a = .slice B1 k e ∧ RowS W4 78 2 (.slice B1 k e) k (subC (R4.take k)) wr) (fun _ j _ => R4.length - (intOf j).toNat)
              case atStart => exact ⟨0, none, 0, rfl, Nat.zero_le _, rfl, HR0.out⟩
              case round =>
                obtain ⟨q, B1, e0, rfl, hql, rfl, hP⟩ := hrel
                have HP := Lib.hid hP
                clear hP HR0
                by_cases hq : q < R4.length
                · obtain ⟨x, hx⟩ : ∃ x, R4[q]? = some x := ⟨_, List.getElem?_eq_getElem hq⟩
                  have hI := H4.out.later (HP.out.bel.trans (((Below.refl _ wr).drew).mono HP.out.bel.size))
                  obtain ⟨g3, c3, e3, hgl, _, hgp, q0, q1, -⟩ := hI.at_ hx
                  injection e3 with e3 en ec
                  clear en
                  injection e3 with e3
                  injection e3 with e3
                  subst e3
                  obtain ⟨y0, y1, y2, y3, y4, y5, y6, yl, _⟩ := kg7 hI.box
                  obtain ⟨u0, u1, u2, u3x, u4, u5, u6, ul, _⟩ := kg7 (H4.out.later HP.out.bel).box
                  have hok := H4.out.all x (List.mem_of_getElem? hx)
                  obtain ⟨tA, tc, et⟩ := own_slice hok.tr
                  obtain ⟨A5, c5, w5, hrun5, hR5⟩ := app_sub HP.out hx et (by omega) rfl
                  have HR5 := Lib.hid hR5
                  have hqi : (q : Int) < (R4.length : Int) := by omega
                  rw [et] at q1
                  clear hok hx hR5 hI et ec
                  generalize hi6 : q * 5 = i6 at *
                  go_wp2_with fail
                  go_region_law (refine step_append_run rfl (.tmp 63) (.tmp 81) 79 rfl (.slice B1 q e0) (.slice (some ⟨wr.heap.size, 0, none⟩) 1 1) (.slice A5 (q + 1) c5) (by simp [Act.eval]) (by simp [Act.eval]) hrun5 ?_)
                  all_goals
                    go_wp2_with fail
                    go_roundw
                    case rel => exact ⟨q + 1, A5, c5, by go_num, hq, rfl, HR5.out⟩
                    case measure => simp [intOf]; omega
                · have hqq : q = R4.length := by omega
                  subst hqq
                  have hki : ¬ (R4.length : Int) < (R4.length : Int) := by omega
                  have hsin := subs_in (by have := HP.out.row; rw [List.take_length] at this; exact this) rfl (fun x hx => (H4.out.all x hx).later HP.out.bel)
                  have HSIN := Lib.hid hsin
                  have HBW := Lib.hid HP.out.bel
                  obtain ⟨y0, y1, y2, y3, y4, y5, y6, yl, _⟩ := kg7 (H4.out.later HP.out.bel).box
                  have hchk : chkE (subsV R4) T = dealE G1.L T := by unfold dealE; rw [← HST.out, strip_chk]
                  have hcs := chk_cases (subsV R4) T
                  have HCH := Lib.hid hchk
                  rw [hchk] at hcs
                  clear hsin HP
                  rcases hcs with hE | hE
                  · have HE := Lib.hid hE
                    have cx := rrange_c (subsV R4) B1 e0 T A2 c2 wr HSIN.out (HT4.out.below HBW.out) hSz (by rw [HCH.out]; exact hE)
                    unfold GotSh at cx
                    simp only [subsV_len] at cx
                    clear hE hchk
                    go_wp2_with fail
                    with_reducible refine cx.mono ?_
                    rintro e w6 ⟨As, cs, Rs, rfl, hsh, hmr, hb6⟩
                    have HB6 := Lib.hid (HBW.out.trans (hb6.mono HBW.out.size))
                    have HSB : Hid (W4.heap.size ≤ wr.heap.size) := Lib.hid HBW.out.size
                    have hZ : wr.heap.size ≤ w6.heap.size := hb6.size
                    have HDD : Hid (rangeD (subsV R4) T = rangeD (subsD G1.L) T) := Lib.hid (by rw [← HST.out, strip_range])
                    obtain ⟨bz, hbz⟩ : ∃ bz, wr.heap.size = bz := ⟨_, rfl⟩
                    rw [hbz] at HSB hsh
                    clear hbz
                    have hRs : Rs.length = R4.length := by have := congrArg List.length hmr; simpa [subsV_len] using this
                    have HRs := Lib.hid hRs
                    have HST2 : Hid (KDs W4 B p (.slice (some ⟨g, 0, none⟩) R4.length c) R4 G1 bz (.slice As R4.length cs) (rangeD (subsD G1.L) T) Rs 0 w6) := Lib.hid ⟨Nat.zero_le _, by rw [dpR_zero]; exact (H4.out.later HB6.out).abs' rfl, by rw [← HDD.out]; exact hsh, Off.of_below _ HB6.out⟩
                    clear hb6 cx hsh hmr hRs
                    go_wp2_with fail
                    go_loopw [20] (fun j wx => ∃ q : Nat, j = .int .i64 q ∧ KDs W4 B p (.slice (some ⟨g, 0, none⟩) R4.length c) R4 G1 bz (.slice As R4.length cs) (rangeD (subsD G1.L) T) Rs q wx) (fun j _ => R4.length - (intOf j).toNat)
                    case atStart => exact ⟨0, rfl, HST2.out⟩
                    case round =>
                      obtain ⟨q, rfl, hD⟩ := hrel
                      have hle := hD.le
                      have HD := Lib.hid hD
                      clear HST2
                      by_cases hq : q < R4.length
                      · obtain ⟨x, hx⟩ : ∃ x, R4[q]? = some x := ⟨_, List.getElem?_eq_getElem hq⟩
                        obtain ⟨r, hr⟩ : ∃ r, Rs[q]? = some r := ⟨_, List.getElem?_eq_getElem (by rw [HRs.out]; exact hq)⟩
                        obtain ⟨y0, y1, y2, y3, y4, y5, y6, yl, f2, f3, f4, f5, f6⟩ := kg7 hD.is.box
                        obtain ⟨v0, v1, v2, v3, v4, v5, v6, vl, j2, j3, j4, j5, j6⟩ := kg7 hD.drew9.is.box
                        obtain ⟨g', c', e, hgl, _, hgp, -, -, -, -, q4, hf⟩ := hD.drew9.is.at_ (dpR_at hx)
                        injection e with e en ec
                        injection e with e
                        injection e with e
                        subst e
                        clear en ec
                        have hf4 := hf (q * 5 + 4)
                        obtain ⟨-, g3, eA, hg3, hb3, s0, s1, -⟩ := hD.drew9.sh.at_ hr
                        subst eA
                        obtain ⟨pA, pc, ep⟩ := own_slice (hD.sh.parts q r hr)
                        have HBg : Hid (g < bz) := Lib.hid (by
                          obtain ⟨g0, c0, e0', hg0, _⟩ := H4.out.at_ hx
                          have hgg : g = g0 := by simpa [Value.ownBlock] using congrArg Value.ownBlock e0'
                          rw [← hgg] at hg0
                          exact Nat.lt_of_lt_of_le hg0 HSB.out)
                        have HBB : Hid (B ≤ bz) := Lib.hid (Nat.le_trans (Nat.le_trans hBW O4.out.size) HSB.out)
                        obtain ⟨rn, rv⟩ := r
                        dsimp only at ep s0 s1
                        subst ep
                        have HST3 := Lib.hid (hD.step hx hr HBB.out HBg.out).drew9
                        have hqi : (q : Int) < (R4.length : Int) := by omega
                        dsimp only at HST3
                        clear hD hx hr hf HBg HBB HD hle
                        generalize ((rangeD (subsD G1.L) T) q).length = pn at *
                        generalize hi7 : q * 5 = i7 at *
                        go_wp2_with fail
                        go_region
                        all_goals go_wp2_with fail
                        all_goals go_roundw
                        case rel => exact ⟨q + 1, by go_num, HST3.out⟩
                        case measure => simp [intOf]; omega
                      · have hqq : q = R4.length := by omega
                        subst hqq
                        have hqi : ¬ (R4.length : Int) < (R4.length : Int) := by omega
                        have HDG : Hid (dealD T false G1 = { G1 with ph := 3, un := 0, L := G1.L.mapIdx fun j x => { x with P := (rangeD (subsD G1.L) T) j } }) := Lib.hid (by unfold dealD; rw [HE.out, if_pos rfl]; rfl)
                        have HAB : Hid ((dpR (rangeD (subsD G1.L) T) Rs R4 R4.length).map MV.d = G1.L.mapIdx fun j x => { x with P := (rangeD (subsD G1.L) T) j }) := Lib.hid (dpR_abs H4.out.abs)
                        have o3 := (Off.one wr ⟨p, 2, none⟩ (.int .i64 3)).set (p := ⟨p, 5, none⟩) (.inl (show p = p from rfl)) (.int .i64 0)
                        have h3 := hD.is.put (G' := { G1 with ph := 3, un := 0, L := (dpR (rangeD (subsD G1.L) T) Rs R4 R4.length).map MV.d }) o3 ((hD.is.box.set 2 (.int .i64 3)).set 5 (.int .i64 0)) rfl
                        obtain ⟨x5, hx5⟩ : ∃ x, (dpR (rangeD (subsD G1.L) T) Rs R4 R4.length)[k]? = some x := ⟨_, List.getElem?_eq_getElem (by rw [dpR_len, HR4.out]; exact hkR)⟩
                        obtain ⟨y0, y1, y2, y3, y4, y5, y6, yl, f2, f3, f4, f5, f6⟩ := kg7 hD.is.box
                        obtain ⟨g5, c5, ev5, -, -, -, -, -, -, -, r4, -⟩ := hD.is.at_ hx5
                        have hg5 : g5 = g := by simpa [Value.ownBlock] using (congrArg Value.ownBlock ev5).symm
                        subst hg5
                        have hall5 := h3.all x5 (List.mem_of_getElem? hx5)
                        obtain ⟨pA, pc, epv⟩ := own_slice hall5.pr
                        rw [epv] at r4
                        have HPR : Hid (World.ownsRow _ B 56 2 (.slice pA x5.d.P.length pc) x5.d.P.length (prtC x5.d.P)) := Lib.hid (by have := hall5.pr; rw [epv] at this; exact this)
                        have H3 := Lib.hid h3
                        have O3 := Lib.hid ((O4.out.trans hD.off (fun _ _ e => e)).trans o3 (fun _ _ e => .inl e))
                        have hkq : (k : Int) < (R4.length : Int) := by rw [HR4.out]; exact hk1
                        clear hD h3 o3 HD hx5 ev5 hall5 epv hle
                        rw [hi5] at r4
                        go_wp2_with fail
                        go_ret2
                        rw [HE.out, HDG.out]
                        exact ⟨pA, pc, x5.d.P, rfl, HPR.out, _, _, H3.out.abs' (by rw [HAB.out]), O3.out, fun k hk => .inl hk⟩
                  · have HE := Lib.hid hE
                    have hD : dealD T false G1 = G1 := by unfold dealD; rw [hE, if_neg (by decide)]
                    have cx := rrange_bad (subsV R4) B1 e0 T A2 c2 wr HSIN.out (HT4.out.below HBW.out) hSl hTl hSz (by rw [HCH.out]; exact hE)
                    simp only [subsV_len] at cx
                    have HDG := Lib.hid hD
                    clear hE hD hchk
                    go_wp2_with fail
                    with_reducible refine cx.mono ?_
                    rintro e w6 ⟨rfl, hb6⟩
                    have HB6 := Lib.hid (HBW.out.trans (hb6.mono HBW.out.size))
                    clear hb6 cx
                    go_wp2_with fail
                    go_ret2
                    rw [HE.out, HDG.out]
                    exact KGot.no (H4.out.later HB6.out) (O4.out.later HB6.out) (fun k hk => .inl hk)
          | true =>
            go_enter Try.func38, Try.ntmps38
            go_wp2_with fail
            with_reducible refine (ct _).mono ?_
            rintro e w1 ⟨rfl, hw9⟩
            have hw8 := hw9.symm
            subst hw8
            clear hw9
            go_wp2_with fail
            with_reducible refine ck.mono ?_
            rintro e w2 ⟨rfl, hb2⟩
            have HB2 := Lib.hid hb2
            have cf2 := cf _ hb2
            clear hb2 cf ct ck
            go_wp2_with fail
            with_reducible refine cf2.mono ?_
            rintro e w3 ⟨rfl, hb3⟩
            have HB3 := Lib.hid (HB2.out.trans (hb3.mono HB2.out.size))
            have hbd : Below w3.heap.size w3 w3.drew := (Below.refl _ _).drew
            have I3d := HI.out.later (HB3.out.trans (hbd.mono HB3.out.size))
            obtain ⟨u3, s1, s2, s3, s4, s5, s6⟩ := HS.out _ I3d
            obtain ⟨R4, hR4, h4a, o4a⟩ := HH.out _ (HI.out.later HB3.out)
            have hbd8 : Below (w3.setCell ⟨g, k * 5 + 2, none⟩ (.int .i64 (now + G.ss))).heap.size (w3.setCell ⟨g, k * 5 + 2, none⟩ (.int .i64 (now + G.ss))) (w3.setCell ⟨g, k * 5 + 2, none⟩ (.int .i64 (now + G.ss))).drew := (Below.refl _ _).drew
            have h4 := h4a.later hbd8
            have H4 := Lib.hid h4
            have O4 := Lib.hid (((Off.of_below (GrS p (.slice (some ⟨g, 0, none⟩) R.length c)) HB3.out).trans o4a (fun _ _ e => e)).later hbd8)
            obtain ⟨z0, z1, z2, z3, z4, z5, z6, zl, _⟩ := kg7 h4.box
            have HR4 := Lib.hid hR4
            have hw : IntKind.i64.wrap (now + G.ss) = now + G.ss := by rw [IntKind.wrap_i64]; omega
            clear hb3 h4a o4a hR4 cf2 I3d hbd hbd8
            have hlenR : R4.length = G1.L.length := h4.len
            have HST : Hid (stripS (subsV R4) = subsD G1.L) := Lib.hid (subs_strip h4.abs)
            have hT4 : TpIn _ A2 T := (fun hp => by
              obtain ⟨b, off, e, hlt, hc⟩ := HT.out hp
              exact ⟨b, off, e, Nat.lt_of_lt_of_le hlt O4.out.size, fun j x hx => ⟨(O4.out.cell (p := ⟨b, off + j * 2, none⟩) hlt (HTS.out hp ⟨b, off, none⟩ e)).trans (hc j x hx).1, (O4.out.cell (p := ⟨b, off + j * 2 + 1, none⟩) hlt (HTS.out hp ⟨b, off, none⟩ e)).trans (hc j x hx).2⟩⟩ : TpIn (w3.setCell ⟨g, k * 5 + 2, none⟩ (.int .i64 (now + G.ss))).drew A2 T)
            have HT4 := Lib.hid hT4
            have hlR : R4.length ≤ 20 := by omega
            have hSl : (subsV R4).length ≤ 140737488351232 := by rw [subsV_len]; omega
            have hSz : ∀ x ∈ subsV R4, x.2.1.length ≤ 140737488351232 := fun x hx => by
              unfold subsV at hx
              obtain ⟨y, hy, rfl⟩ := List.mem_map.1 hx
              have := hTL1 y.d (by rw [← h4.abs]; exact List.mem_map_of_mem hy)
              show y.d.T.length ≤ _
              omega
            have h4x := h4
            clear hT4 h4 hlenR
            generalize hi5 : k * 5 = i5 at *
            go_wp2_with fail
            go_region
            all_goals
              clear s1 s2 s3 s4 s5 s6
              generalize (w3.setCell ⟨g, i5 + 2, none⟩ (.int .i64 (now + G.ss))).drew = W4 at *
              have HR0 := Lib.hid (RowS.start W4 78 2)
              clear h4x
              rw [← HR4.out] at H4 z6
              go_wp2_with fail
              have hdk : decide (0 < k) = false := decide_eq_false (by omega)
              rw [hdk]
              clear hdk hkneg
              go_loopw [16, 17] (fun a j wr => ∃ (k : Nat) (B1 : Option Addr) (e : Nat), j = .int .i64 k ∧ k ≤ R4.length ∧ a = .slice B1 k e ∧ RowS W4 78 2 (.slice B1 k e) k (subC (R4.take k)) wr) (fun _ j _ => R4.length - (intOf j).toNat)
              case atStart => exact ⟨0, none, 0, rfl, Nat.zero_le _, rfl, HR0.out⟩
              case round =>
                obtain ⟨q, B1, e0, rfl, hql, rfl, hP⟩ := hrel
                have HP := Lib.hid hP
                clear hP HR0
                by_cases hq : q < R4.length
                · obtain ⟨x, hx⟩ : ∃ x, R4[q]? = some x := ⟨_, List.getElem?_eq_getElem hq⟩
                  have hI := H4.out.later (HP.out.bel.trans (((Below.refl _ wr).drew).mono HP.out.bel.size))
                  obtain ⟨g3, c3, e3, hgl, _, hgp, q0, q1, -⟩ := hI.at_ hx
                  injection e3 with e3 en ec
                  clear en
                  injection e3 with e3
                  injection e3 with e3
                  subst e3
                  obtain ⟨y0, y1, y2, y3, y4, y5, y6, yl, _⟩ := kg7 hI.box
                  obtain ⟨u0, u1, u2, u3x, u4, u5, u6, ul, _⟩ := kg7 (H4.out.later HP.out.bel).box
                  have hok := H4.out.all x (List.mem_of_getElem? hx)
                  obtain ⟨tA, tc, et⟩ := own_slice hok.tr
                  obtain ⟨A5, c5, w5, hrun5, hR5⟩ := app_sub HP.out hx et (by omega) rfl
                  have HR5 := Lib.hid hR5
                  have hqi : (q : Int) < (R4.length : Int) := by omega
                  rw [et] at q1
                  clear hok hx hR5 hI et ec
                  generalize hi6 : q * 5 = i6 at *
                  go_wp2_with fail
                  go_region_law (refine step_append_run rfl (.tmp 63) (.tmp 81) 79 rfl (.slice B1 q e0) (.slice (some ⟨wr.heap.size, 0, none⟩) 1 1) (.slice A5 (q + 1) c5) (by simp [Act.eval]) (by simp [Act.eval]) hrun5 ?_)
                  all_goals
                    go_wp2_with fail
                    go_roundw
                    case rel => exact ⟨q + 1, A5, c5, by go_num, hq, rfl, HR5.out⟩
                    case measure => simp [intOf]; omega
                · have hqq : q = R4.length := by omega
                  subst hqq
                  have hki : ¬ (R4.length : Int) < (R4.length : Int) := by omega
                  have hsin := subs_in (by have := HP.out.row; rw [List.take_length] at this; exact this) rfl (fun x hx => (H4.out.all x hx).later HP.out.bel)
                  have HSIN := Lib.hid hsin
                  have HBW := Lib.hid HP.out.bel
                  obtain ⟨y0, y1, y2, y3, y4, y5, y6, yl, _⟩ := kg7 (H4.out.later HP.out.bel).box
                  have hchk : chkE (subsV R4) T = dealE G1.L T := by unfold dealE; rw [← HST.out, strip_chk]
                  have hcs := chk_cases (subsV R4) T
                  have HCH := Lib.hid hchk
                  rw [hchk] at hcs
                  clear hsin HP
                  rcases hcs with hE | hE
                  · have HE := Lib.hid hE
                    have cx := rrange_c (subsV R4) B1 e0 T A2 c2 wr HSIN.out (HT4.out.below HBW.out) hSz (by rw [HCH.out]; exact hE)
                    unfold GotSh at cx
                    simp only [subsV_len] at cx
                    clear hE hchk
                    go_wp2_with fail
                    with_reducible refine cx.mono ?_
                    rintro e w6 ⟨As, cs, Rs, rfl, hsh, hmr, hb6⟩
                    have HB6 := Lib.hid (HBW.out.trans (hb6.mono HBW.out.size))
                    have HSB : Hid (W4.heap.size ≤ wr.heap.size) := Lib.hid HBW.out.size
                    have hZ : wr.heap.size ≤ w6.heap.size := hb6.size
                    have cx2 := rround_c (subsV R4) B1 e0 T A2 c2 w6 (HSIN.out.below hb6) (HT4.out.below HB6.out) hSz (by rw [HCH.out]; exact HE.out)
                    unfold GotSh at cx2
                    simp only [subsV_len] at cx2
                    clear hsh hmr cx
                    go_wp2_with fail
                    with_reducible refine cx2.mono ?_
                    rintro e w7 ⟨As, cs, Rs, rfl, hsh, hmr, hb7⟩
                    replace HB6 := Lib.hid (HB6.out.trans (hb7.mono HB6.out.size))
                    replace HSB : Hid (W4.heap.size ≤ w6.heap.size) := Lib.hid (Nat.le_trans HSB.out hZ)
                    have cx := hb7
                    have HDD : Hid ((roundD (subsV R4) T).1 = (roundD (subsD G1.L) T).1) := Lib.hid (by rw [← HST.out, strip_round])
                    obtain ⟨bz, hbz⟩ : ∃ bz, w6.heap.size = bz := ⟨_, rfl⟩
                    rw [hbz] at HSB hsh
                    clear hbz cx2 hb7
                    have hRs : Rs.length = R4.length := by have := congrArg List.length hmr; simpa [subsV_len] using this
                    have HRs := Lib.hid hRs
                    have HST2 : Hid (KDs W4 B p (.slice (some ⟨g, 0, none⟩) R4.length c) R4 G1 bz (.slice As R4.length cs) ((roundD (subsD G1.L) T).1) Rs 0 w7) := Lib.hid ⟨Nat.zero_le _, by rw [dpR_zero]; exact (H4.out.later HB6.out).abs' rfl, by rw [← HDD.out]; exact hsh, Off.of_below _ HB6.out⟩
                    clear hb6 cx hsh hmr hRs
                    go_wp2_with fail
                    go_loopw [20] (fun j wx => ∃ q : Nat, j = .int .i64 q ∧ KDs W4 B p (.slice (some ⟨g, 0, none⟩) R4.length c) R4 G1 bz (.slice As R4.length cs) ((roundD (subsD G1.L) T).1) Rs q wx) (fun j _ => R4.length - (intOf j).toNat)
                    case atStart => exact ⟨0, rfl, HST2.out⟩
                    case round =>
                      obtain ⟨q, rfl, hD⟩ := hrel
                      have hle := hD.le
                      have HD := Lib.hid hD
                      clear HST2
                      by_cases hq : q < R4.length
                      · obtain ⟨x, hx⟩ : ∃ x, R4[q]? = some x := ⟨_, List.getElem?_eq_getElem hq⟩
                        obtain ⟨r, hr⟩ : ∃ r, Rs[q]? = some r := ⟨_, List.getElem?_eq_getElem (by rw [HRs.out]; exact hq)⟩
                        obtain ⟨y0, y1, y2, y3, y4, y5, y6, yl, f2, f3, f4, f5, f6⟩ := kg7 hD.is.box
                        obtain ⟨v0, v1, v2, v3, v4, v5, v6, vl, j2, j3, j4, j5, j6⟩ := kg7 hD.drew9.is.box
                        obtain ⟨g', c', e, hgl, _, hgp, -, -, -, -, q4, hf⟩ := hD.drew9.is.at_ (dpR_at hx)
                        injection e with e en ec
                        injection e with e
                        injection e with e
                        subst e
                        clear en ec
                        have hf4 := hf (q * 5 + 4)
                        obtain ⟨-, g3, eA, hg3, hb3, s0, s1, -⟩ := hD.drew9.sh.at_ hr
                        subst eA
                        obtain ⟨pA, pc, ep⟩ := own_slice (hD.sh.parts q r hr)
                        have HBg : Hid (g < bz) := Lib.hid (by
                          obtain ⟨g0, c0, e0', hg0, _⟩ := H4.out.at_ hx
                          have hgg : g = g0 := by simpa [Value.ownBlock] using congrArg Value.ownBlock e0'
                          rw [← hgg] at hg0
                          exact Nat.lt_of_lt_of_le hg0 HSB.out)
                        have HBB : Hid (B ≤ bz) := Lib.hid (Nat.le_trans (Nat.le_trans hBW O4.out.size) HSB.out)
                        obtain ⟨rn, rv⟩ := r
                        dsimp only at ep s0 s1
                        subst ep
                        have HST3 := Lib.hid (hD.step hx hr HBB.out HBg.out).drew9
                        have hqi : (q : Int) < (R4.length : Int) := by omega
                        dsimp only at HST3
                        clear hD hx hr hf HBg HBB HD hle
                        generalize (((roundD (subsD G1.L) T).1) q).length = pn at *
                        generalize hi7 : q * 5 = i7 at *
                        go_wp2_with fail
                        go_region
                        all_goals go_wp2_with fail
                        all_goals go_roundw
                        case rel => exact ⟨q + 1, by go_num, HST3.out⟩
                        case measure => simp [intOf]; omega
                      · have hqq : q = R4.length := by omega
                        subst hqq
                        have hqi : ¬ (R4.length : Int) < (R4.length : Int) := by omega
                        have HDG : Hid (dealD T true G1 = { G1 with ph := 3, un := 0, L := G1.L.mapIdx fun j x => { x with P := ((roundD (subsD G1.L) T).1) j } }) := Lib.hid (by unfold dealD; rw [HE.out, if_pos rfl]; rfl)
                        have HAB : Hid ((dpR ((roundD (subsD G1.L) T).1) Rs R4 R4.length).map MV.d = G1.L.mapIdx fun j x => { x with P := ((roundD (subsD G1.L) T).1) j }) := Lib.hid (dpR_abs H4.out.abs)
                        have o3 := (Off.one wr ⟨p, 2, none⟩ (.int .i64 3)).set (p := ⟨p, 5, none⟩) (.inl (show p = p from rfl)) (.int .i64 0)
                        have h3 := hD.is.put (G' := { G1 with ph := 3, un := 0, L := (dpR ((roundD (subsD G1.L) T).1) Rs R4 R4.length).map MV.d }) o3 ((hD.is.box.set 2 (.int .i64 3)).set 5 (.int .i64 0)) rfl
                        obtain ⟨x5, hx5⟩ : ∃ x, (dpR ((roundD (subsD G1.L) T).1) Rs R4 R4.length)[k]? = some x := ⟨_, List.getElem?_eq_getElem (by rw [dpR_len, HR4.out]; exact hkR)⟩
                        obtain ⟨y0, y1, y2, y3, y4, y5, y6, yl, f2, f3, f4, f5, f6⟩ := kg7 hD.is.box
                        obtain ⟨g5, c5, ev5, -, -, -, -, -, -, -, r4, -⟩ := hD.is.at_ hx5
                        have hg5 : g5 = g := by simpa [Value.ownBlock] using (congrArg Value.ownBlock ev5).symm
                        subst hg5
                        have hall5 := h3.all x5 (List.mem_of_getElem? hx5)
                        obtain ⟨pA, pc, epv⟩ := own_slice hall5.pr
                        rw [epv] at r4
                        have HPR : Hid (World.ownsRow _ B 56 2 (.slice pA x5.d.P.length pc) x5.d.P.length (prtC x5.d.P)) := Lib.hid (by have := hall5.pr; rw [epv] at this; exact this)
                        have H3 := Lib.hid h3
                        have O3 := Lib.hid ((O4.out.trans hD.off (fun _ _ e => e)).trans o3 (fun _ _ e => .inl e))
                        have hkq : (k : Int) < (R4.length : Int) := by rw [HR4.out]; exact hk1
                        clear hD h3 o3 HD hx5 ev5 hall5 epv hle
                        rw [hi5] at r4
                        go_wp2_with fail
                        go_ret2
                        rw [HE.out, HDG.out]
                        exact ⟨pA, pc, x5.d.P, rfl, HPR.out, _, _, H3.out.abs' (by rw [HAB.out]), O3.out, fun k hk => .inl hk⟩
                  · have HE := Lib.hid hE
                    have hD : dealD T true G1 = G1 := by unfold dealD; rw [hE, if_neg (by decide)]
                    have cx := rrange_bad (subsV R4) B1 e0 T A2 c2 wr HSIN.out (HT4.out.below HBW.out) hSl hTl hSz (by rw [HCH.out]; exact hE)
                    simp only [subsV_len] at cx
                    have HDG := Lib.hid hD
                    clear hE hD hchk
                    go_wp2_with fail
                    with_reducible refine cx.mono ?_
                    rintro e w6 ⟨rfl, hb6⟩
                    have HB6 := Lib.hid (HBW.out.trans (hb6.mono HBW.out.size))
                    have cx2 := rround_bad (subsV R4) B1 e0 T A2 c2 w6 (HSIN.out.below hb6) (HT4.out.below HB6.out) hSl hTl hSz (by rw [HCH.out]; exact HE.out)
                    simp only [subsV_len] at cx2
                    go_wp2_with fail
                    with_reducible refine cx2.mono ?_
                    rintro e w7 ⟨rfl, hb7⟩
                    replace HB6 := Lib.hid (HB6.out.trans (hb7.mono HB6.out.size))
                    clear hb7 cx2
                    clear hb6 cx
                    go_wp2_with fail
                    go_ret2
                    rw [HE.out, HDG.out]
                    exact KGot.no (H4.out.later HB6.out) (O4.out.later HB6.out) (fun k hk => .inl hk)
        · obtain ⟨k1, hk1'⟩ : ∃ k1, k = k1 + 1 := ⟨k - 1, by omega⟩
          have hml : m ≠ leadM G1 := lead_more (by rw [← hk1']; exact HKP.out)
          have e2D : sync2D m T round G1 = G1 := by unfold sync2D; rw [if_pos hph, if_neg hml]
          have e2E : sync2E m T G1 = 13 := by unfold sync2E; rw [if_pos hph, if_neg hml]
          have hkpos : (0 : Int) < (k : Int) := by omega
          rw [e2D, e2E]
          clear hph e2D e2E hkk hk1' hml
          go_enter Try.func38, Try.ntmps38
          go_wp2_with fail
          with_reducible refine (ct _).mono ?_
          rintro e w1 ⟨rfl, hw9⟩
          have hw8 := hw9.symm
          subst hw8
          clear hw9
          go_wp2_with fail
          with_reducible refine ck.mono ?_
          rintro e w2 ⟨rfl, hb2⟩
          have HB2 := Lib.hid hb2
          have cf2 := cf _ hb2
          clear hb2 cf ct ck
          go_wp2_with fail
          with_reducible refine cf2.mono ?_
          rintro e w3 ⟨rfl, hb3⟩
          have HB3 := Lib.hid (HB2.out.trans (hb3.mono HB2.out.size))
          have hbd : Below w3.heap.size w3 w3.drew := (Below.refl _ _).drew
          have I3d := HI.out.later (HB3.out.trans (hbd.mono HB3.out.size))
          obtain ⟨u3, s1, s2, s3, s4, s5, s6⟩ := HS.out _ I3d
          obtain ⟨R4, hR4, h4a, o4a⟩ := HH.out _ (HI.out.later HB3.out)
          have hbd8 : Below (w3.setCell ⟨g, k * 5 + 2, none⟩ (.int .i64 (now + G.ss))).heap.size (w3.setCell ⟨g, k * 5 + 2, none⟩ (.int .i64 (now + G.ss))) (w3.setCell ⟨g, k * 5 + 2, none⟩ (.int .i64 (now + G.ss))).drew := (Below.refl _ _).drew
          have h4 := h4a.later hbd8
          have H4 := Lib.hid h4
          have O4 := Lib.hid (((Off.of_below (GrS p (.slice (some ⟨g, 0, none⟩) R.length c)) HB3.out).trans o4a (fun _ _ e => e)).later hbd8)
          obtain ⟨z0, z1, z2, z3, z4, z5, z6, zl, _⟩ := kg7 h4.box
          have HR4 := Lib.hid hR4
          have hw : IntKind.i64.wrap (now + G.ss) = now + G.ss := by rw [IntKind.wrap_i64]; omega
          clear hb3 h4a o4a hR4 cf2 I3d hbd hbd8
          generalize hi5 : k * 5 = i5 at *
          go_wp2_with fail
          go_region
          all_goals
            clear s1 s2 s3 s4 s5 s6
            go_wp2_with fail
            go_ret2
            exact KGot.no H4.out O4.out (fun k hk => .inl hk)
      · have hph' : (G1.ph == 2) = false := beq_eq_false_iff_ne.2 hph
        have e2D : sync2D m T round G1 = G1 := by unfold sync2D; rw [if_neg hph]
        have e2E : sync2E m T G1 = 0 := by unfold sync2E; rw [if_neg hph]
        rw [e2D, e2E]
        clear hph e2D e2E
        go_enter Try.func38, Try.ntmps38
        go_wp2_with fail
        with_reducible refine (ct _).mono ?_
        rintro e w1 ⟨rfl, hw9⟩
        have hw8 := hw9.symm
        subst hw8
        clear hw9
        go_wp2_with fail
        with_reducible refine ck.mono ?_
        rintro e w2 ⟨rfl, hb2⟩
        have HB2 := Lib.hid hb2
        have cf2 := cf _ hb2
        clear hb2 cf ct ck
        go_wp2_with fail
        with_reducible refine cf2.mono ?_
        rintro e w3 ⟨rfl, hb3⟩
        have HB3 := Lib.hid (HB2.out.trans (hb3.mono HB2.out.size))
        have hbd : Below w3.heap.size w3 w3.drew := (Below.refl _ _).drew
        have I3d := HI.out.later (HB3.out.trans (hbd.mono HB3.out.size))
        obtain ⟨u3, s1, s2, s3, s4, s5, s6⟩ := HS.out _ I3d
        obtain ⟨R4, hR4, h4a, o4a⟩ := HH.out _ (HI.out.later HB3.out)
        have hbd8 : Below (w3.setCell ⟨g, k * 5 + 2, none⟩ (.int .i64 (now + G.ss))).heap.size (w3.setCell ⟨g, k * 5 + 2, none⟩ (.int .i64 (now + G.ss))) (w3.setCell ⟨g, k * 5 + 2, none⟩ (.int .i64 (now + G.ss))).drew := (Below.refl _ _).drew
        have h4 := h4a.later hbd8
        have H4 := Lib.hid h4
        have O4 := Lib.hid (((Off.of_below (GrS p (.slice (some ⟨g, 0, none⟩) R.length c)) HB3.out).trans o4a (fun _ _ e => e)).later hbd8)
        obtain ⟨z0, z1, z2, z3, z4, z5, z6, zl, _⟩ := kg7 h4.box
        have HR4 := Lib.hid hR4
        have hw : IntKind.i64.wrap (now + G.ss) = now + G.ss := by rw [IntKind.wrap_i64]; omega
        clear hb3 h4a o4a hR4 cf2 I3d hbd hbd8
        obtain ⟨x5, hx5⟩ : ∃ x, R4[k]? = some x := ⟨_, List.getElem?_eq_getElem (by rw [HR4.out]; exact hkR)⟩
        obtain ⟨g5, c5, ev5, -, -, -, -, -, -, -, r4, -⟩ := h4.at_ hx5
        have hg5 : g5 = g := by simpa [Value.ownBlock] using (congrArg Value.ownBlock ev5).symm
        subst hg5
        have hall5 := h4.all x5 (List.mem_of_getElem? hx5)
        obtain ⟨pA, pc, epv⟩ := own_slice hall5.pr
        rw [epv] at r4
        have HPR : Hid (World.ownsRow _ B 56 2 (.slice pA x5.d.P.length pc) x5.d.P.length (prtC x5.d.P)) := Lib.hid (by have := hall5.pr; rw [epv] at this; exact this)
        clear hx5 ev5 hall5 epv
        generalize hi5 : k * 5 = i5 at *
        go_wp2_with fail
        go_region
        all_goals
          clear s1 s2 s3 s4 s5 s6
          go_wp2_with fail
          go_ret2
          exact ⟨pA, pc, x5.d.P, rfl, HPR.out, _, R4, H4.out, O4.out, fun k hk => .inl hk⟩
    · have hE : syncE m gen T now G = knowE m gen G := by unfold syncE; rw [ht, if_pos rfl, if_neg hK]
      have hD : syncD m gen T round now G = G := by unfold syncD; rw [if_neg (fun e => hK e.2)]
      rw [hE, hD]
      have hK' : (knowE m gen G == 0) = false := beq_eq_false_iff_ne.2 hK
      obtain ⟨q, hq⟩ : ∃ q, knowE m gen G = q := ⟨_, rfl⟩
      rw [hq] at ck hK' ⊢
      clear h hG ht hE hD hTL hTz hT hTS hK hq
      go_enter Try.func38, Try.ntmps38
      go_wp2_with fail
      with_reducible refine (ct _).mono ?_
      rintro e w1 ⟨rfl, hw9⟩
      have hw8 := hw9.symm
      subst hw8
      clear hw9
      go_wp2_with fail
      with_reducible refine ck.mono ?_
      rintro e w2 ⟨rfl, hb2⟩
      go_wp2_with fail
      go_ret2
      exact KGot.no (HI.out.later hb2) (Off.of_below _ hb2) (fun k hk => .inl hk)
end Go.Proofs.Ythbcklamhoekmaa
/- the document's answer: are two lists of parts the same: a contract that tells a bool, whichever. No condition. -/
namespace Go.Proofs.Ythbcklamhoekmaa
open Go.RowKit
set_option linter.unusedVariables false
set_option maxRecDepth 100000 in
theorem eqin_part (d : Nat) (a b : ByteArray) (i j : Int) (w : World) : (Op.equalIn (d + 2) 56 (.agg #[.string a, .int .i64 i]) (.agg #[.string b, .int .i64 j])).run Try.prog w = .ok (a.toList == b.toList && i == j) w := by
  have u3 := Try.underlying3
  have u9 := Try.underlying9
  have a3 := Try.isAgg3
  have z3 := Try.sizeOf3
  have a9 := Try.isAgg9
  have z9 := Try.sizeOf9
  have hS : Try.prog.underlying 56 = some (.struct (Try.prog.fieldsOf 56)) := by kernel_rfl
  have hp : Try.prog.stoodInHeld 56 = false := by kernel_rfl
  rw [show d + 2 = (d + 1) + 1 from rfl, run_equalIn_agg w (d + 1) 56 _ _ hS hp]
  simp only [Program.fieldsOf, Try.underlying56]
  go_simp
  by_cases h1 : a.toList = b.toList <;> by_cases h2 : i = j <;> simp [h1, h2]
theorem part_eql (a b : ByteArray) (i j : Int) (w : World) : (binOp .eql 56 (.agg #[.string a, .int .i64 i]) (.agg #[.string b, .int .i64 j])).run Try.prog w = .ok (.bool (a.toList == b.toList && i == j)) w := by
  rw [run_eql_struct, show (10000 : Nat) = 9998 + 2 from rfl, eqin_part]; rfl
theorem part_neq (a b : ByteArray) (i j : Int) (w : World) : (binOp .neq 56 (.agg #[.string a, .int .i64 i]) (.agg #[.string b, .int .i64 j])).run Try.prog w = .ok (.bool (!(a.toList == b.toList && i == j))) w := by
  rw [run_neq_struct, show (10000 : Nat) = 9998 + 2 from rfl, eqin_part]; rfl
theorem part_guard (op : BinOp) (a b : Operand) (xs ys : Array Value) (w : World) : (eqGuard op 56 a b (.agg xs) (.agg ys)).run Try.prog w = .ok () w := run_eqGuard_agg w op 56 a b xs ys (by kernel_rfl)
set_option maxHeartbeats 4000000 in
set_option maxRecDepth 100000 in
theorem samePs_c (N M : List TX) (A : Option Addr) (c : Nat) (B : Option Addr) (d : Nat) (W : World) (hA : TpIn W A N) (hB : TpIn W B M) (hl : N.length ≤ 100000) :
    Calls Try.prog 39 #[.slice A N.length c, .slice B M.length d] W (fun e w' => ∃ b, e = .returned (.bool b) ∧ ∃ n, w' = W.drewN n) := by
  have HA := Lib.hid hA
  have HB := Lib.hid hB
  clear hA hB
  by_cases hnm : N.length = M.length
  · rw [← hnm]
    have HNM := Lib.hid hnm
    clear hnm
    go_enter Try.func39, Try.ntmps39
    go_wp2
    go_loopw [5] (fun j wr => ∃ k q : Nat, j = .int .i64 k ∧ k ≤ N.length ∧ wr = W.drewN q) (fun j _ => N.length - (intOf j).toNat)
    case atStart => exact ⟨0, 0, rfl, Nat.zero_le _, rfl⟩
    case round =>
      obtain ⟨k, q, rfl, hle, rfl⟩ := hrel
      by_cases hk : k < N.length
      · obtain ⟨b, off, rfl, hlt, x0, x1⟩ := HA.out.at_ hk
        have hk2 : k < M.length := by rw [← HNM.out]; exact hk
        obtain ⟨b2, off2, rfl, hlt2, y0, y1⟩ := HB.out.at_ hk2
        have hki : (k : Int) < (N.length : Int) := by omega
        have hk0 : (0 : Int) ≤ (k : Int) := by omega
        generalize N[k] = x at *
        generalize M[k] = y at *
        have hgd := fun (a b : Operand) w => part_guard .neq a b #[.string x.1, .int .i64 x.2] #[.string y.1, .int .i64 y.2] w
        have hneq := fun w => part_neq x.1 y.1 x.2 y.2 w
        cases hb : (x.1.toList == y.1.toList && x.2 == y.2) with
        | true =>
          simp only [hb, Bool.not_true] at hneq
          clear hb
          go_wp2_with fail
          go_quiet (fail)
          go_wp2_with fail
          go_roundw
          case rel => exact ⟨k + 1, _, by go_num, hk, by first | exact World.drewN_drewN _ _ _ | rfl⟩
          case measure => simp [intOf]; omega
        | false =>
          simp only [hb, Bool.not_false] at hneq
          clear hb
          go_wp2_with fail
          go_quiet (fail)
          go_wp2_with fail
          go_ret
          exact ⟨false, by rfl, _, by first | exact World.drewN_drewN _ _ _ | rfl⟩
      · have hki : ¬ (k : Int) < (N.length : Int) := by omega
        go_wp2_with fail
        go_ret
        exact ⟨.inr rfl, q, rfl⟩
  · have hne : ((N.length : Int) == (M.length : Int)) = false := beq_eq_false_iff_ne.2 (by omega)
    go_enter Try.func39, Try.ntmps39
    go_wp2_with fail
    go_ret
    refine ⟨false, ?_⟩
    exact ⟨by rfl, 0, rfl⟩
end Go.Proofs.Ythbcklamhoekmaa
