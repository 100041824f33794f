/- member: slices.DeleteFunc over members, whatever the predicate. No condition. -/
import Derived.Test.YtlokhhjhckiloaaGreatMbIdx
namespace Go.Proofs.YtlokhhjhckiloaaGreat
open Go.RowKit
set_option linter.unusedVariables false
theorem oneInfo : (Tryz.prog.info? 95).map (fun i => (i.zero, i.size, i.bytes)) = some (some (.agg #[.int .i64 0, .slice none 0 0, .int .i64 0, .bool false, .slice none 0 0]), 5, 72) := by kernel_rfl
def zeroOne : List Value := [.int .i64 0, .slice none 0 0, .int .i64 0, .bool false, .slice none 0 0]
theorem own_clear {B t g c n : Nat} (i : Nat) (hi : i ≤ n) (xs : List Value) (hx : xs.length = i * 5) : ∀ (L : List Value) (o : Nat) (ys : List Value) (w : World), i * 5 ≤ o → w.ownsRow B t 5 (.slice (some ⟨g, 0, none⟩) n c) n (xs ++ ys) →
    (w.setCells g o L).ownsRow B t 5 (.slice (some ⟨g, 0, none⟩) i c) i xs ∧ Off (· = g) w (w.setCells g o L)
  | [], o, ys, w, ho, h => by
    refine ⟨⟨hx, ?_⟩, Off.refl _ _⟩
    rcases h.2 with ⟨h', _⟩ | ⟨g', cap', cur, h', hb, hg, hnc, hcm, hcs, htake⟩
    · simp at h'
    · simp only [Value.slice.injEq, Option.some.injEq, Addr.mk.injEq, and_true, true_and] at h'
      obtain ⟨rfl, rfl⟩ := h'
      refine .inr ⟨g, c, cur, rfl, hb, hg, by omega, hcm, hcs, ?_⟩
      have e := congrArg (List.take (i * 5)) htake
      rw [List.take_take, Nat.min_eq_left (Nat.mul_le_mul_right 5 hi), List.take_append_of_le_length (by omega), List.take_of_length_le (l := xs) (by omega)] at e
      exact e
  | u :: L, o, ys, w, ho, h => by
    have h1 := (h.stored o u).1
    rw [List.set_append_right _ _ (by omega)] at h1
    obtain ⟨h2, h3⟩ := own_clear i hi xs hx L (o + 1) _ (w.setCell ⟨g, o, none⟩ u) (by omega) h1
    exact ⟨h2, (Off.one w ⟨g, o, none⟩ u).trans h3 (fun k _ hk => hk)⟩
theorem mvR_set5 (M : List MV) (i : Nat) (hi : i < M.length) (x : MV) : (((((mvR M).set (i * 5) (.int .i64 x.d.n)).set (i * 5 + 1) x.tv).set (i * 5 + 2) (.int .i64 x.d.u)).set (i * 5 + 3) (.bool x.d.j)).set (i * 5 + 4) x.pv = mvR (M.set i x) := by
  induction M generalizing i with
  | nil => simp at hi
  | cons a M ih =>
    cases i with
    | zero => rfl
    | succ i =>
      have := ih i (by simpa using hi)
      rw [List.set_cons_succ, mvR_cons, mvR_cons, ← this, show (i + 1) * 5 = i * 5 + 5 by omega]
      rfl
theorem row_store5 {w : World} {B g c n : Nat} {M : List MV} (h : w.ownsRow B 95 5 (.slice (some ⟨g, 0, none⟩) n c) n (mvR M)) (i : Nat) (hi : i < M.length) (x : MV) :
    (((((w.setCell ⟨g, i * 5, none⟩ (.int .i64 x.d.n)).setCell ⟨g, i * 5 + 1, none⟩ x.tv).setCell ⟨g, i * 5 + 2, none⟩ (.int .i64 x.d.u)).setCell ⟨g, i * 5 + 3, none⟩ (.bool x.d.j)).setCell ⟨g, i * 5 + 4, none⟩ x.pv).ownsRow B 95 5 (.slice (some ⟨g, 0, none⟩) n c) n (mvR (M.set i x)) ∧
    Off (· = g) w (((((w.setCell ⟨g, i * 5, none⟩ (.int .i64 x.d.n)).setCell ⟨g, i * 5 + 1, none⟩ x.tv).setCell ⟨g, i * 5 + 2, none⟩ (.int .i64 x.d.u)).setCell ⟨g, i * 5 + 3, none⟩ (.bool x.d.j)).setCell ⟨g, i * 5 + 4, none⟩ x.pv) := by
  refine ⟨?_, ?_⟩
  · have h1 := (h.stored (i * 5) (.int .i64 x.d.n)).1
    have h2 := (h1.stored (i * 5 + 1) x.tv).1
    have h3 := (h2.stored (i * 5 + 2) (.int .i64 x.d.u)).1
    have h4 := (h3.stored (i * 5 + 3) (.bool x.d.j)).1
    have h5 := (h4.stored (i * 5 + 4) x.pv).1
    rw [mvR_set5 M i hi x] at h5
    exact h5
  · have o1 := Off.one w ⟨g, i * 5, none⟩ (.int .i64 x.d.n)
    have o2 := o1.set (p := ⟨g, i * 5 + 1, none⟩) (.inl (show g = g from rfl)) x.tv
    have o3 := o2.set (p := ⟨g, i * 5 + 2, none⟩) (.inl (show g = g from rfl)) (.int .i64 x.d.u)
    have o4 := o3.set (p := ⟨g, i * 5 + 3, none⟩) (.inl (show g = g from rfl)) (.bool x.d.j)
    exact o4.set (p := ⟨g, i * 5 + 4, none⟩) (.inl (show g = g from rfl)) x.pv
/-- Who is kept of the first j. -/
def kepM (f : MD → Bool) (R : List MV) (j : Nat) : List MV := (R.take j).filter (fun x => !f x.d)
theorem kepM_len (f : MD → Bool) (R : List MV) (j : Nat) : (kepM f R j).length ≤ j := by
  unfold kepM
  have := List.length_filter_le (fun x => !f x.d) (R.take j)
  rw [List.length_take] at this
  omega
theorem kepM_yes {f : MD → Bool} {R : List MV} {j : Nat} {x : MV} (hx : R[j]? = some x) (h : f x.d = false) : kepM f R (j + 1) = kepM f R j ++ [x] := by
  unfold kepM
  rw [List.take_add_one, hx, Option.toList_some, List.filter_append]
  simp [h]
theorem kepM_no {f : MD → Bool} {R : List MV} {j : Nat} {x : MV} (hx : R[j]? = some x) (h : f x.d = true) : kepM f R (j + 1) = kepM f R j := by
  unfold kepM
  rw [List.take_add_one, hx, Option.toList_some, List.filter_append]
  simp [h]
theorem kepM_all (f : MD → Bool) (R : List MV) : kepM f R R.length = R.filter (fun x => !f x.d) := by
  unfold kepM; rw [List.take_length]
/-- Deleting under way. -/
structure DlAt (B g c : Nat) (f : MD → Bool) (R : List MV) (w : World) (i j : Nat) (wr : World) : Prop where
  le : j ≤ R.length
  at_ : i = (kepM f R j).length
  lt : i < j
  row : wr.ownsRow B 95 5 (.slice (some ⟨g, 0, none⟩) R.length c) R.length (mvR (kepM f R j ++ R.drop i))
  off : Off (· = g) w wr
theorem dl_get {f : MD → Bool} {R : List MV} {i j : Nat} (hi : i = (kepM f R j).length) (hij : i ≤ j) {x : MV} (hx : R[j]? = some x) : (kepM f R j ++ R.drop i)[j]? = some x := by
  rw [List.getElem?_append_right (by omega), List.getElem?_drop, ← hx]
  congr 1
  omega
theorem dl_set {f : MD → Bool} {R : List MV} {i j : Nat} (hi : i = (kepM f R j).length) (hl : i < R.length) (x : MV) : (kepM f R j ++ R.drop i).set i x = (kepM f R j ++ [x]) ++ R.drop (i + 1) := by
  rw [List.set_append_right _ _ (by omega), hi, Nat.sub_self, List.drop_eq_getElem_cons (by omega), List.set_cons_zero]
  simp
theorem row_cells {w : World} {B g c n : Nat} {M : List MV} (h : w.ownsRow B 95 5 (.slice (some ⟨g, 0, none⟩) n c) n (mvR M)) {i : Nat} {x : MV} (hx : M[i]? = some x) : (w.cell? ⟨g, i * 5, none⟩ = some (.int .i64 x.d.n) ∧ w.cell? ⟨g, i * 5 + 1, none⟩ = some x.tv ∧ w.cell? ⟨g, i * 5 + 2, none⟩ = some (.int .i64 x.d.u) ∧
    w.cell? ⟨g, i * 5 + 3, none⟩ = some (.bool x.d.j) ∧ w.cell? ⟨g, i * 5 + 4, none⟩ = some x.pv) ∧ (w.frozen? ⟨g, i * 5, none⟩ = false ∧ w.frozen? ⟨g, i * 5 + 1, none⟩ = false ∧ w.frozen? ⟨g, i * 5 + 2, none⟩ = false ∧ w.frozen? ⟨g, i * 5 + 3, none⟩ = false ∧ w.frozen? ⟨g, i * 5 + 4, none⟩ = false) ∧ g < w.heap.size := by
  have hl := (List.getElem?_eq_some_iff.1 hx).1
  have hn : M.length = n := by have := h.1; rw [mvR_len] at this; omega
  obtain ⟨m0, m1, m2, m3, m4⟩ := mvR_at hx
  obtain ⟨g', e, hlt, _, _, hc⟩ := own_in h (by omega)
  injection e with e
  injection e with e
  subst e
  exact ⟨⟨hc _ _ m0, hc _ _ m1, hc _ _ m2, hc _ _ m3, hc _ _ m4⟩, ⟨h.frozenAt _, h.frozenAt _, h.frozenAt _, h.frozenAt _, h.frozenAt _⟩, hlt⟩
theorem run_clear_one (w : World) (ty : TypeId) (B g n c i : Nat) (M : List MV) (h : w.ownsRow B 95 5 (.slice (some ⟨g, 0, none⟩) n c) n (mvR M)) (hi : i < n) :
    ∃ L, (Builtin.clear_ #[55] ty #[.slice (some ⟨g, i * 5, none⟩) (n - i) (c - i)]).run Tryz.prog w = .ok (.tuple #[]) (w.setCells g (i * 5) L) := by
  obtain ⟨i0, hinf, hz0, hz1, hz2⟩ := info_parts oneInfo
  have hn : M.length = n := by have := h.1; rw [mvR_len] at this; omega
  have hv : ∀ w, (zeroValue 95).run Tryz.prog w = .ok (.agg #[.int .i64 0, .slice none 0 0, .int .i64 0, .bool false, .slice none 0 0]) w := Tryz.zeroValue95
  have hlen : ∀ j, j < (n - i) * 5 → i * 5 + j < n * 5 := fun j hj => by omega
  have hst := run_storeCells_cells (P := Tryz.prog) g (i * 5) (Builtin.zeroCells #[.int .i64 0, .slice none 0 0, .int .i64 0, .bool false, .slice none 0 0] (n - i)).toList 0 w (fun j hj => by
    rw [Nat.add_zero, h.cellAt _ (hlen j (by simpa [Builtin.zeroCells] using hj)), List.getElem?_eq_getElem (by rw [mvR_len, hn]; exact hlen j (by simpa [Builtin.zeroCells] using hj))]
    rfl) (fun j _ => by rw [Nat.add_zero]; exact h.frozenAt _) (fun v hv' => by
    simp only [Builtin.zeroCells, Array.toList_map, List.mem_map] at hv'
    obtain ⟨q, _, e⟩ := hv'
    have hq : q % 5 < 5 := Nat.mod_lt _ (by decide)
    rw [← e]
    simp only [List.size_toArray, List.length_cons, List.length_nil, Nat.zero_add, Nat.reduceAdd]
    generalize q % 5 = r at *
    match r, hq with
    | 0, _ => rfl
    | 1, _ => rfl
    | 2, _ => rfl
    | 3, _ => rfl
    | 4, _ => rfl)
  simp only [Nat.add_zero] at hst
  refine ⟨(Builtin.zeroCells #[.int .i64 0, .slice none 0 0, .int .i64 0, .bool false, .slice none 0 0] (n - i)).toList, ?_⟩
  obtain ⟨m, hm⟩ : ∃ m, n - i = m + 1 := ⟨n - i - 1, by omega⟩
  rw [hm] at hst ⊢
  have hu := Tryz.underlying55
  simp [Builtin.clear_, run_underlying hu, hv, Value.cells, hst]
/-- What deleting gives. -/
def GotDl (B g c : Nat) (f : MD → Bool) (R : List MV) (W : World) (e : Ending) (w' : World) : Prop :=
  e = .returned (.slice (some ⟨g, 0, none⟩) (R.filter (fun x => !f x.d)).length c) ∧ w'.ownsRow B 95 5 (.slice (some ⟨g, 0, none⟩) (R.filter (fun x => !f x.d)).length c) (R.filter (fun x => !f x.d)).length (mvR (R.filter (fun x => !f x.d))) ∧ Off (· = g) W w'
theorem DlAt.skip {B g c : Nat} {f : MD → Bool} {R : List MV} {w wr w' : World} {i j : Nat} {x : MV} (h : DlAt B g c f R w i j wr) (hx : R[j]? = some x) (hf : f x.d = true) (hb : Below wr.heap.size wr w') : DlAt B g c f R w i (j + 1) w' := by
  have hl := (List.getElem?_eq_some_iff.1 hx).1
  refine ⟨by omega, by rw [kepM_no hx hf]; exact h.at_, by have := h.lt; omega, by rw [kepM_no hx hf]; exact own_below h.row hb, h.off.later hb⟩
theorem DlAt.keep {B g c : Nat} {f : MD → Bool} {R : List MV} {w wr w' : World} {i j : Nat} {x : MV} (h : DlAt B g c f R w i j wr) (hx : R[j]? = some x) (hf : f x.d = false) (hb : Below wr.heap.size wr w') :
    DlAt B g c f R w (i + 1) (j + 1) (((((w'.setCell ⟨g, i * 5, none⟩ (.int .i64 x.d.n)).setCell ⟨g, i * 5 + 1, none⟩ x.tv).setCell ⟨g, i * 5 + 2, none⟩ (.int .i64 x.d.u)).setCell ⟨g, i * 5 + 3, none⟩ (.bool x.d.j)).setCell ⟨g, i * 5 + 4, none⟩ x.pv) := by
  have hl := (List.getElem?_eq_some_iff.1 hx).1
  have hlt := h.lt
  have hr := own_below h.row hb
  have hM : (kepM f R j ++ R.drop i).length = R.length := by rw [List.length_append, List.length_drop, ← h.at_]; omega
  obtain ⟨r1, r2⟩ := row_store5 hr i (by omega) x
  refine ⟨by omega, by rw [kepM_yes hx hf, List.length_append, ← h.at_]; rfl, by omega, ?_, (h.off.later hb).trans r2 (fun k _ hk => hk)⟩
  rw [kepM_yes hx hf, ← dl_set h.at_ (by omega)]
  exact r1
theorem DlAt.done {B g c : Nat} {f : MD → Bool} {R : List MV} {w wr : World} {i j : Nat} (h : DlAt B g c f R w i j wr) (hj : R.length ≤ j) (L : List Value) : GotDl B g c f R w (.returned (.slice (some ⟨g, 0, none⟩) i c)) (wr.setCells g (i * 5) L) := by
  have e : j = R.length := by have := h.le; omega
  subst e
  have h1 := h.at_
  have h2 := h.row
  have hlt := h.lt
  rw [mvR_app] at h2
  obtain ⟨r1, r2⟩ := own_clear i (by omega) (mvR (kepM f R R.length)) (by rw [mvR_len, ← h1]) L (i * 5) _ wr (Nat.le_refl _) h2
  rw [kepM_all] at h1 r1
  refine ⟨by rw [← h1], ?_, h.off.trans r2 (fun k _ hk => hk)⟩
  rw [← h1]
  exact r1
set_option maxHeartbeats 8000000 in
set_option maxRecDepth 100000 in
theorem delete_c (gf : Nat) (lb : Array Value) (f : MD → Bool) (eg : ∀ args w, (callFunc gf args).run Tryz.prog w = .ok (.enter gf args) w) (B g c : Nat) (R : List MV) (W : World) (hR : W.ownsRow B 95 5 (.slice (some ⟨g, 0, none⟩) R.length c) R.length (mvR R)) (hl : R.length ≤ 1000000)
    (ho1 : ∀ x ∈ R, IsSl x.tv ∧ IsSl x.pv) (hp : PrdAt gf lb f (· = g) W) :
    Calls Tryz.prog 111 #[.slice (some ⟨g, 0, none⟩) R.length c, .func (.func gf) #[] lb] W (GotDl B g c f R W) := by
  have hin : RwIn W (some ⟨g, 0, none⟩) R := fun h0 => by
    refine ⟨g, 0, rfl, ?_, fun k x hk => ?_⟩
    · exact (row_cells hR (List.getElem?_eq_getElem h0)).2.2
    · rw [Nat.zero_add]
      exact ⟨(row_cells hR hk).1, ho1 x (List.mem_of_getElem? hk)⟩
  have ci := index_c gf lb f eg R (some ⟨g, 0, none⟩) c W hin hl (· = g) hp
  have HR := Lib.hid hR
  have HP := Lib.hid hp
  have HO := Lib.hid ho1
  clear hR hp hin ho1
  rcases hfi : (R.map MV.d).findIdx? f with _ | i
  · have e1 : idxM f (R.map MV.d) = -1 := by unfold idxM; rw [hfi]
    have HF : Hid (R.filter (fun x => !f x.d) = R) := Lib.hid (by
      rw [List.filter_eq_self]
      intro x hx
      have := List.findIdx?_eq_none_iff.1 hfi x.d (List.mem_map_of_mem hx)
      simp [this])
    rw [e1] at ci
    clear hfi e1
    go_enter Tryz.func111, Tryz.ntmps111
    go_wp2_with ((with_reducible refine ci.mono ?_); rintro e w1 ⟨rfl, hb1⟩)
    go_ret
    unfold GotDl
    rw [HF.out]
    exact ⟨rfl, own_below HR.out hb1, Off.of_below _ hb1⟩
  · obtain ⟨hiL, hfx, hno⟩ := List.findIdx?_eq_some_iff_getElem.1 hfi
    have hil : i < R.length := by simpa using hiL
    have e1 : idxM f (R.map MV.d) = (i : Int) := by unfold idxM; rw [hfi]
    have hno' : ∀ j y, j < i → R[j]? = some y → f y.d = false := fun j y hj hy => by
      have := hno j hj
      rw [List.getElem_map] at this
      rw [List.getElem?_eq_getElem (by omega)] at hy
      injection hy with hy
      rw [hy] at this
      simpa using this
    have hk1 : kepM f R i = R.take i := by
      unfold kepM
      rw [List.filter_eq_self]
      intro x hx
      obtain ⟨j, hj, e⟩ := List.mem_iff_getElem.1 hx
      rw [List.length_take] at hj
      rw [List.getElem_take] at e
      rw [hno' j x (by omega) (by rw [List.getElem?_eq_getElem (by omega), e])]
      rfl
    have hk2 : kepM f R (i + 1) = R.take i := by
      rw [kepM_no (List.getElem?_eq_getElem hil) (by rw [List.getElem_map] at hfx; exact hfx), hk1]
    have HST : Hid (∀ w1, Below W.heap.size W w1 → DlAt B g c f R W i (i + 1) w1) := Lib.hid (fun w1 hb1 => by
      refine ⟨by omega, by rw [hk2, List.length_take]; omega, by omega, ?_, Off.of_below _ hb1⟩
      rw [hk2, List.take_append_drop]
      exact own_below HR.out hb1)
    have hne1 : ((i : Int) == -1) = false := beq_eq_false_iff_ne.2 (by omega)
    rw [e1] at ci
    clear hfi e1 hiL hfx hno hno' hk1 hk2
    go_enter Tryz.func111, Tryz.ntmps111
    go_wp2_with ((with_reducible refine ci.mono ?_); rintro e w1 ⟨rfl, hb1⟩)
    have HS1 := Lib.hid (HST.out w1 hb1)
    clear HST hb1 ci hne1
    go_loopw [5, 6] (fun s5 s6 wr => ∃ i j : Nat, s5 = .int .i64 i ∧ s6 = .int .i64 j ∧ DlAt B g c f R W i j wr) (fun _ s6 _ => R.length - (intOf s6).toNat)
    case atStart => exact ⟨i, i + 1, rfl, by go_num, HS1.out⟩
    case round =>
      clear hil HS1
      obtain ⟨i, j, rfl, rfl, hD⟩ := hrel
      have hle := hD.le
      have hij := hD.lt
      by_cases hj : j < R.length
      · obtain ⟨x, hx⟩ : ∃ x, R[j]? = some x := ⟨_, List.getElem?_eq_getElem hj⟩
        have hM := dl_get hD.at_ (by omega) hx
        obtain ⟨⟨c0, c1, c2, c3, c4⟩, _, hg⟩ := row_cells hD.row hM
        obtain ⟨q1, q2⟩ := HO.out x (List.mem_of_getElem? hx)
        have HD := Lib.hid hD
        have HX := Lib.hid hx
        have HW := Lib.hid (HP.out x)
        obtain ⟨⟨n, T, u, jj, P⟩, tv, pv⟩ := x
        obtain ⟨tA, tn, tc, rfl⟩ := q1
        obtain ⟨pA, pn, pc, rfl⟩ := q2
        dsimp only at *
        have hbx := Box.new wr 95 #[.int .i64 n, .slice tA tn tc, .int .i64 u, .bool jj, .slice pA pn pc]
        have hB1 : Below wr.heap.size wr (wr.alloc (.cells #[.int .i64 n, .slice tA tn tc, .int .i64 u, .bool jj, .slice pA pn pc] 95)) := (Below.refl _ _).alloc (Nat.le_refl _) _
        have hcall := HW.out (wr.alloc (.cells #[.int .i64 n, .slice tA tn tc, .int .i64 u, .bool jj, .slice pA pn pc] 95)) (hD.off.trans (Off.of_below (· = g) hB1) (fun k _ hk => hk))
        unfold mvV at hcall
        dsimp only at hcall
        have HBX := Lib.hid hbx
        have HB1 := Lib.hid hB1
        obtain ⟨b0, b1, b2, b3, b4⟩ : (wr.alloc (.cells #[.int .i64 n, .slice tA tn tc, .int .i64 u, .bool jj, .slice pA pn pc] 95)).cell? ⟨wr.heap.size, 0, none⟩ = some (.int .i64 n) ∧ (wr.alloc (.cells #[.int .i64 n, .slice tA tn tc, .int .i64 u, .bool jj, .slice pA pn pc] 95)).cell? ⟨wr.heap.size, 1, none⟩ = some (.slice tA tn tc) ∧ (wr.alloc (.cells #[.int .i64 n, .slice tA tn tc, .int .i64 u, .bool jj, .slice pA pn pc] 95)).cell? ⟨wr.heap.size, 2, none⟩ = some (.int .i64 u) ∧ (wr.alloc (.cells #[.int .i64 n, .slice tA tn tc, .int .i64 u, .bool jj, .slice pA pn pc] 95)).cell? ⟨wr.heap.size, 3, none⟩ = some (.bool jj) ∧ (wr.alloc (.cells #[.int .i64 n, .slice tA tn tc, .int .i64 u, .bool jj, .slice pA pn pc] 95)).cell? ⟨wr.heap.size, 4, none⟩ = some (.slice pA pn pc) :=
          ⟨(hbx.cell 0).trans rfl, (hbx.cell 1).trans rfl, (hbx.cell 2).trans rfl, (hbx.cell 3).trans rfl, (hbx.cell 4).trans rfl⟩
        clear hD hx hM hbx hB1 hle
        cases hf : f ⟨n, T, u, jj, P⟩ with
        | true =>
          rw [hf] at hcall
          have HF := Lib.hid hf
          clear hf
          go_wp2_with (go_at_fn gf; (with_reducible refine hcall.mono ?_); rintro e w2 ⟨rfl, hb2⟩)
          go_roundw
          case rel => exact ⟨i, j + 1, rfl, by go_num, HD.out.skip HX.out HF.out (bjoin HB1.out hb2 rfl rfl)⟩
          case measure => simp [intOf]; omega
        | false =>
          rw [hf] at hcall
          have HF := Lib.hid hf
          clear hf
          go_wp2_with fail
          go_at_fn gf
          with_reducible refine hcall.mono ?_
          rintro e w2 ⟨rfl, hb2⟩
          have hBB := bjoin HB1.out hb2 rfl rfl
          have HBB := Lib.hid hBB
          obtain ⟨y, hM2⟩ : ∃ y, (kepM f R j ++ R.drop i)[i]? = some y := ⟨_, by rw [List.getElem?_append_right (by rw [← HD.out.at_]; omega), ← HD.out.at_, Nat.sub_self, List.getElem?_drop, Nat.add_zero, List.getElem?_eq_getElem (by omega)]⟩
          obtain ⟨⟨z0, z1, z2, z3, z4⟩, ⟨f0, f1, f2, f3, f4⟩, hg2⟩ := row_cells (own_below HD.out.row hBB) hM2
          have hbx2 := HBX.out.later hb2
          obtain ⟨y0, y1, y2, y3, y4⟩ : w2.cell? ⟨wr.heap.size, 0, none⟩ = some (.int .i64 n) ∧ w2.cell? ⟨wr.heap.size, 1, none⟩ = some (.slice tA tn tc) ∧ w2.cell? ⟨wr.heap.size, 2, none⟩ = some (.int .i64 u) ∧ w2.cell? ⟨wr.heap.size, 3, none⟩ = some (.bool jj) ∧ w2.cell? ⟨wr.heap.size, 4, none⟩ = some (.slice pA pn pc) :=
            ⟨(hbx2.cell 0).trans rfl, (hbx2.cell 1).trans rfl, (hbx2.cell 2).trans rfl, (hbx2.cell 3).trans rfl, (hbx2.cell 4).trans rfl⟩
          have hiR : (i : Int) < (R.length : Int) := by omega
          obtain ⟨⟨yn, yT, yu, yj, yP⟩, ytv, ypv⟩ := y
          dsimp only at z0 z1 z2 z3 z4
          clear hb2 hBB hM2 hbx2 c0 c1 c2 c3 c4 b0 b1 b2 b3 b4 hcall
          have HD5 := Lib.hid (HD.out.keep HX.out HF.out HBB.out)
          dsimp only at HD5
          generalize hi5 : i * 5 = i5 at *
          clear hij HBB HX HF HD HBX HB1 HW hg
          go_wp2_with fail
          go_roundw
          case rel => exact ⟨i + 1, j + 1, by go_num, by go_num, HD5.out⟩
          case measure => simp [intOf]; omega
      · have hiR : (i : Int) < (R.length : Int) := by omega
        obtain ⟨L, hcl⟩ := run_clear_one wr 0 B g R.length c i _ hD.row (by omega)
        have HD := Lib.hid hD
        have hcap : R.length ≤ c := by
          obtain ⟨g', e, _, _, h5, _⟩ := own_in hD.row (by omega)
          exact h5
        clear hD
        go_wp2
        go_ret
        exact HD.out.done (by omega) L
end Go.Proofs.YtlokhhjhckiloaaGreat
