/- match: rows of records of a call's own. No condition. -/
import Derived.Test.YtmnmgbbdjpfonaaDoorMtRs
import Derived.Test.YtmnmgbbdjpfonaaDoorMtCpy
import Derived.Test.YtmnmgbbdjpfonaaDoorMtLv
import Derived.Maps.AppendAt
import Derived.Test.YtmnmgbbdjpfonaaDoorMtOne
import Derived.Test.YtmnmgbbdjpfonaaDoorMtRo
import Derived.Test.YtmnmgbbdjpfonaaDoorMtSm
namespace Go.Proofs.YtmnmgbbdjpfonaaDoor
open Go.RowKit
set_option linter.unusedVariables false
def recsC (L : List RX) : List Value := L.flatMap fun x => (recC x.1 x.2.1 x.2.2).toList
theorem recsC_snoc (L : List RX) (x : RX) : recsC (L ++ [x]) = recsC L ++ (recC x.1 x.2.1 x.2.2).toList := by simp [recsC]
/-- Records in memory of the call's own. -/
structure RowR (w : World) (base : Nat) (v : Value) (L : List RX) : Prop where
  row : w.ownsRow base 27 7 v L.length (recsC L)
  heads : ∀ x ∈ L, w.ownsRow base 42 2 (.slice x.2.1 x.1.heads.length x.2.2) x.1.heads.length (headCells x.1.heads)
section
variable {w w' : World} {base : Nat} {v : Value} {L : List RX}
theorem RowR.nil (w : World) (base : Nat) : RowR w base (.slice none 0 0) [] := ⟨World.ownsRow_nil _ _ _ _, fun x hx => by cases hx⟩
theorem RowR.later (h : RowR w base v L) (hb : Below w.heap.size w w') : RowR w' base v L := ⟨own_below h.row hb, fun x hx => own_below (h.heads x hx) hb⟩
/-- A store into a block of another type. -/
theorem RowR.set {b t : Nat} {cs : Array Value} (h : RowR w base v L) (hb : Box w b t cs) (h1 : t ≠ 27) (h2 : t ≠ 42) (i : Nat) (u : Value) : RowR (w.setCell ⟨b, i, none⟩ u) base v L :=
  ⟨own_off h.row (Off.one w ⟨b, i, none⟩ u) (own_ne h.row hb h1), fun x hx => own_off (h.heads x hx) (Off.one w ⟨b, i, none⟩ u) (own_ne (h.heads x hx) hb h2)⟩
/-- Two rows of other types are two. -/
theorem own_two {b1 b2 n1 n2 z1 z2 : Nat} {t1 t2 : TypeId} {v1 v2 : Value} {x1 x2 : List Value} (h1 : w.ownsRow b1 t1 z1 v1 n1 x1) (h2 : w.ownsRow b2 t2 z2 v2 n2 x2) (hne : t1 ≠ t2) : v1.ownBlock = none ∨ v1.ownBlock ≠ v2.ownBlock := by
  rcases h1.2 with ⟨rfl, _⟩ | ⟨g, cap, cur, rfl, _, hg, _⟩
  · exact .inl rfl
  · refine .inr fun e => ?_
    rcases h2.2 with ⟨rfl, _⟩ | ⟨g2, cap2, cur2, rfl, _, hg2, _⟩
    · cases e
    · have : g = g2 := by simpa [Value.ownBlock] using e
      subst this
      rw [hg] at hg2
      injection hg2 with e2
      injection e2 with _ e3 _
      exact hne e3
theorem RowR.grow {v' : Value} {x : RX} (h : RowR w base v L) (hh : w.ownsRow base 42 2 (.slice x.2.1 x.1.heads.length x.2.2) x.1.heads.length (headCells x.1.heads))
    (ho : w'.ownsRow base 27 7 v' (L.length + 1) (recsC L ++ (recC x.1 x.2.1 x.2.2).toList)) (hg : w.grownBy w' v.ownBlock) : RowR w' base v' (L ++ [x]) := by
  refine ⟨by rw [recsC_snoc, List.length_append]; exact ho, fun y hy => ?_⟩
  rw [List.mem_append] at hy
  rcases hy with hy | hy
  · exact (h.heads y hy).kept hg (own_two (h.heads y hy) h.row (by decide))
  · simp at hy
    subst hy
    exact hh.kept hg (own_two hh h.row (by decide))
end
theorem recsC_at : ∀ {L : List RX} {j i : Nat} {x : RX}, L[j]? = some x → i < 7 → (recsC L)[j * 7 + i]? = (recC x.1 x.2.1 x.2.2)[i]?
  | [], j, i, x, h, _ => by cases h
  | y :: l, 0, i, x, h, hi => by
    have e : y = x := by simpa using h
    subst e
    have hl : (recC y.1 y.2.1 y.2.2).toList.length = 7 := rfl
    show ((recC y.1 y.2.1 y.2.2).toList ++ recsC l)[0 * 7 + i]? = _
    rw [List.getElem?_append_left (by omega), Nat.zero_mul, Nat.zero_add, Array.getElem?_toList]
  | y :: l, j + 1, i, x, h, hi => by
    have hl : (recC y.1 y.2.1 y.2.2).toList.length = 7 := rfl
    show ((recC y.1 y.2.1 y.2.2).toList ++ recsC l)[(j + 1) * 7 + i]? = _
    rw [List.getElem?_append_right (by omega), hl, show (j + 1) * 7 + i - 7 = j * 7 + i by omega]
    exact recsC_at (by simpa using h) hi
theorem rsin_of {w : World} {base c : Nat} {A : Option Addr} {L : List RX} (hrow : w.ownsRow base 27 7 (.slice A L.length c) L.length (recsC L)) (hok : ∀ x ∈ L, RIn w x.1 x.2.1 x.2.2) : RsIn w A L := fun hp => by
  rcases hrow.2 with ⟨hv, h0⟩ | ⟨g, cap, cur, hv, hg, hh, h4, h5, h6, h7⟩
  · omega
  · injection hv with e1 _ _
    refine ⟨g, 0, e1, lt_of_there hh, fun j x hx => ?_⟩
    have hj : j < L.length := (List.getElem?_eq_some_iff.1 hx).1
    have k : ∀ i, i < 7 → w.cell? ⟨g, 0 + j * 7 + i, none⟩ = (recsC L)[j * 7 + i]? := fun i hi => by
      subst e1
      have := hrow.cellAt (j * 7 + i) (by omega)
      rw [show 0 + j * 7 + i = j * 7 + i by omega]
      exact this
    have k2 : ∀ i, i < 7 → (recsC L)[j * 7 + i]? = (recC x.1 x.2.1 x.2.2)[i]? := fun i hi => recsC_at hx hi
    refine ⟨⟨?_, ?_, ?_, ?_, ?_, ?_, ?_⟩, hok x (List.mem_of_getElem? hx)⟩
    · exact (k 0 (by decide)).trans ((k2 0 (by decide)).trans rfl)
    · exact (k 1 (by decide)).trans ((k2 1 (by decide)).trans rfl)
    · exact (k 2 (by decide)).trans ((k2 2 (by decide)).trans rfl)
    · exact (k 3 (by decide)).trans ((k2 3 (by decide)).trans rfl)
    · exact (k 4 (by decide)).trans ((k2 4 (by decide)).trans rfl)
    · exact (k 5 (by decide)).trans ((k2 5 (by decide)).trans rfl)
    · exact (k 6 (by decide)).trans ((k2 6 (by decide)).trans rfl)
theorem recE_parts {r : Rec} (h : recE r = 0) : r.key.size ≤ 1000 ∧ r.value.size ≤ 1000 ∧ r.heads.length ≤ 10 ∧ ∀ x ∈ r.heads, x.1.size ≤ 1000 ∧ x.2.size ≤ 1000 := by
  unfold recE at h
  split at h
  · rename_i h2
    unfold okRec okLen okMany at h2
    simp only [Bool.and_eq_true, decide_eq_true_eq, List.all_eq_true] at h2
    refine ⟨by omega, by omega, by omega, fun x hx => ?_⟩
    have := h2.2 x hx
    unfold okHead at this
    simp only [decide_eq_true_eq] at this
    omega
  · cases h
theorem rin_of_ok {w : World} {r : Rec} {A : Option Addr} {c : Nat} (h : recE r = 0) (hh : HIn w A r.heads) : RIn w r A c := by
  obtain ⟨h1, h2, h3, h4⟩ := recE_parts h
  exact ⟨hh, by omega, by omega, by omega, fun x hx => by have := h4 x hx; omega⟩
theorem RowR.rsin {w : World} {base c : Nat} {A : Option Addr} {L : List RX} (h : RowR w base (.slice A L.length c) L) (hok : ∀ x ∈ L, recE x.1 = 0) : RsIn w A L :=
  rsin_of h.row (fun x hx => rin_of_ok (hok x hx) (hin_of_own (h.heads x hx)))
theorem rec_one (r : Rec) (A : Option Addr) (c : Nat) : ∀ u ∈ (recC r A c).toList, u.oneCell' = true := by
  intro u hu
  unfold recC at hu
  simp at hu
  rcases hu with rfl | rfl | rfl | rfl | rfl | rfl | rfl <;> rfl
/-- What Pick hands back. -/
def GotP (W : World) (good : Prop) (R : List Rec) (e : Ending) (w' : World) : Prop :=
  ((good ∧ ∃ (M : List RX) (A : Option Addr) (c : Nat), M.map (·.1) = R ∧ e = .returned (.tuple #[.slice A M.length c, .int .i64 0]) ∧ RsIn w' A M) ∨ (¬ good ∧ e = .returned (.tuple #[.slice none 0 0, .int .i64 1]))) ∧ Below W.heap.size W w'
def goodL (t : Tr) (L : List RX) : Prop := checkG t = 0 ∧ ∀ x ∈ L, recE x.1 = 0
def resL (t : Tr) (L : List RX) : List Rec := (L.map (·.1)).filter (fun r => letsG r 6 t)
theorem res_snoc {t : Tr} {L : List RX} {k : Nat} {x : RX} (hx : L[k]? = some x) : resL t (L.take (k + 1)) = resL t (L.take k) ++ (if letsG x.1 6 t = true then [x.1] else []) := by
  unfold resL
  rw [List.take_add_one, hx, Option.toList_some, List.map_append, List.filter_append]
  congr 1
  simp only [List.map_cons, List.map_nil, List.filter_cons, List.filter_nil]
theorem res_le (t : Tr) (L : List RX) : (resL t L).length ≤ L.length := by
  unfold resL
  exact Nat.le_trans (List.length_filter_le _ _) (by simp)
theorem ok_snoc {L : List RX} {k : Nat} {x : RX} (hx : L[k]? = some x) (h : ∀ y ∈ L.take k, recE y.1 = 0) (h1 : recE x.1 = 0) : ∀ y ∈ L.take (k + 1), recE y.1 = 0 := by
  intro y hy
  rw [List.take_add_one, hx, Option.toList_some, List.mem_append] at hy
  rcases hy with hy | hy
  · exact h y hy
  · have : y = x := by simpa using hy
    rw [this]; exact h1
end Go.Proofs.YtmnmgbbdjpfonaaDoor
/- match: Pick, the program's, by a contract. Condition: the tables of utf8. -/
namespace Go.Proofs.YtmnmgbbdjpfonaaDoor
open Go.RowKit
set_option linter.unusedVariables false
theorem own_base {w : World} {base B t size n : Nat} {v : Value} {xs : List Value} (h : w.ownsRow base t size v n xs) (hB : B ≤ base) : w.ownsRow B t size v n xs := by
  refine ⟨h.1, ?_⟩
  rcases h.2 with h0 | ⟨g, cap, cur, hv, hb, hr⟩
  · exact .inl h0
  · exact .inr ⟨g, cap, cur, hv, Nat.le_trans hB hb, hr⟩
structure PcS (W : World) (t : Tr) (A : Option Addr) (c : Nat) (L : List RX) (k : Nat) (B : Option Addr) (e : Nat) (M : List RX) (w : World) : Prop where
  row : RowR w W.heap.size (.slice B M.length e) M
  bx : Boxed W t A c w
  res : M.map (·.1) = resL t (L.take k)
  ok : ∀ y ∈ L.take k, recE y.1 = 0
theorem PcS.later {W w w' : World} {t : Tr} {A : Option Addr} {c k e : Nat} {L M : List RX} {B : Option Addr} (h : PcS W t A c L k B e M w) (hb : Below w.heap.size w w') : PcS W t A c L k B e M w' :=
  ⟨h.row.later hb, h.bx.later hb, h.res, h.ok⟩
theorem PcS.no {W w : World} {t : Tr} {A : Option Addr} {c k e : Nat} {L M : List RX} {B : Option Addr} {x : RX} (h : PcS W t A c L k B e M w) (hx : L[k]? = some x) (h1 : recE x.1 = 0) (h2 : letsG x.1 6 t = false) : PcS W t A c L (k + 1) B e M w :=
  ⟨h.row, h.bx, by rw [res_snoc hx, h2, h.res]; simp, ok_snoc hx h.ok h1⟩
theorem PcS.yes {W w w' : World} {t : Tr} {A : Option Addr} {c k e e' : Nat} {L M : List RX} {B B' : Option Addr} {x y : RX} (h : PcS W t A c L k B e M w) (hx : L[k]? = some x) (h1 : recE x.1 = 0) (h2 : letsG x.1 6 t = true) (hy : y.1 = x.1)
    (hh : w.ownsRow W.heap.size 42 2 (.slice y.2.1 y.1.heads.length y.2.2) y.1.heads.length (headCells y.1.heads))
    (ho : w'.ownsRow W.heap.size 27 7 (.slice B' (M.length + 1) e') (M.length + 1) (recsC M ++ (recC y.1 y.2.1 y.2.2).toList)) (hg : w.grownBy w' (Value.slice B M.length e).ownBlock) : PcS W t A c L (k + 1) B' e' (M ++ [y]) w' := by
  have hr := h.row.grow hh ho hg
  refine ⟨by rw [List.length_append]; exact hr, ⟨h.bx.box.kept_by hg (.inr (fun e => own_ne h.row.row h.bx.box (by decide) _ e rfl)), h.bx.bel.grown hg h.bx.bel.size (fun j e => (h.row.row.lt j e).1)⟩, ?_, ok_snoc hx h.ok h1⟩
  rw [res_snoc hx, h2, ← h.res, List.map_append]
  simp [hy]
theorem GotP.bad {W w : World} {good : Prop} {R : List Rec} (hg : ¬ good) (hb : Below W.heap.size W w) : GotP W good R (.returned (.tuple #[.slice none 0 0, .int .i64 1])) w := ⟨.inr ⟨hg, rfl⟩, hb⟩
theorem GotP.ok {W w : World} {good : Prop} {R : List Rec} {M : List RX} {A : Option Addr} {c : Nat} (hg : good) (hr : M.map (·.1) = R) (hi : RsIn w A M) (hb : Below W.heap.size W w) : GotP W good R (.returned (.tuple #[.slice A M.length c, .int .i64 0])) w := ⟨.inl ⟨hg, M, A, c, hr, rfl, hi⟩, hb⟩
set_option maxHeartbeats 16000000 in
set_option maxRecDepth 100000 in
theorem pick_c (t : Tr) (A : Option Addr) (c : Nat) (L : List RX) (B : Option Addr) (d : Nat) (W : World) (hT : TrAt (fun _ => True) W 19 A t) (hL : RsIn W B L) (hTb : Tabs W) (hl : L.length ≤ 1000) :
    Calls Tryd.prog 13 #[exV t A c, .slice B L.length d] W (GotP W (goodL t L) (resL t L)) := by
  have hd : depD 19 t := hT.depD
  have c1 := fun w (h : TrAt (fun _ => True) w 19 A t) => check_c (fun _ => True) 19 t A c w (by decide) h
  rw [check_same hd hd (by decide)] at c1
  have HB := Lib.hid (Boxed.start W t A c)
  have hc : ∀ w, Boxed W t A c w → _ := fun w h => h.cells
  have HT := Lib.hid hT
  have HL := Lib.hid hL
  have HTb := Lib.hid hTb
  have hce : checkG t = 0 ∨ checkG t = 1 := by unfold checkG; split <;> simp
  have hgb : ∀ w, ¬ goodL t L → Below W.heap.size W w → _ := fun w h hb => GotP.bad (R := resL t L) h hb
  have hgo : ∀ w M A' c', goodL t L → M.map (·.1) = resL t L → RsIn w A' M → Below W.heap.size W w → _ := fun w M A' c' h1 h2 h3 h4 => GotP.ok (c := c') h1 h2 h3 h4
  obtain ⟨x0, x1, x2, x3⟩ := HB.out.cells
  obtain ⟨i0, hi, hz0, hz1, hz2⟩ := info_parts recInfo
  clear hT hL hTb hd
  rcases hce with hk0 | hk0
  · rw [hk0] at c1
    have c3 := fun (r : Rec) Ar cr (hr : recE r = 0) w (h : TrAt (fun _ => True) w 19 A t) (hi : RIn w r Ar cr) (hb : Tabs w) => thru_c r Ar cr (recSm_of hr) 6 19 t A c w (checkG_ok hk0) h hi hb
    have hgood : (∀ x ∈ L, recE x.1 = 0) → goodL t L := fun h => ⟨hk0, h⟩
    have HGD := Lib.hid hgood
    have HP0 : Hid (PcS W t A c L 0 none 0 [] (W.alloc (.cells (exC t A c) 24))) := Lib.hid ⟨RowR.nil _ _, HB.out, rfl, fun y hy => by simp at hy⟩
    clear hk0 HB hgood
    unfold exV exC at *
    go_enter Tryd.func13, Tryd.ntmps13
    go_wp2_with fail
    with_reducible refine (c1 _ (HT.out.below HP0.out.bx.bel)).mono ?_
    rintro en w1 ⟨rfl, hb1⟩
    have HP1 := Lib.hid (HP0.out.later hb1)
    clear hb1 c1 x0 x1 x2 x3 HP0
    go_wp2_with fail
    go_loopw [6, 14] (fun a i wr => ∃ (k : Nat) (M : List RX) (B' : Option Addr) (e : Nat), i = .int .i64 k ∧ k ≤ L.length ∧ a = .slice B' M.length e ∧ PcS W t A c L k B' e M wr) (fun _ i _ => L.length - (intOf i).toNat)
    case atStart => exact ⟨0, [], none, 0, rfl, Nat.zero_le _, rfl, HP1.out⟩
    case round =>
      obtain ⟨k, M, B', e0, rfl, hkl, rfl, hP⟩ := hrel
      have HP2 := Lib.hid hP
      clear hP HP1
      by_cases hk : k < L.length
      · obtain ⟨x, hx⟩ : ∃ x, L[k]? = some x := ⟨_, List.getElem?_eq_getElem hk⟩
        obtain ⟨b, off, rfl, hbl, hca⟩ := (HL.out.below HP2.out.bx.bel) (by omega)
        obtain ⟨⟨y0, y1, y2, y3, y4, y5, y6⟩, hR⟩ := hca k x hx
        have HXK := Lib.hid hx
        have hxm := List.mem_of_getElem? hx
        obtain ⟨r, A1, c1'⟩ := x
        simp only at y0 y1 y2 y3 y4 y5 y6 hR
        have HR := Lib.hid hR
        have d2 := fun w (h : RIn w r A1 c1') => pchk4_c r A1 c1' w h
        have hre : recE r = 0 ∨ recE r = 1 := by unfold recE; split <;> simp
        have hki : (k : Int) < (L.length : Int) := by omega
        have HV := Lib.hid (HP2.out.later ((Below.refl _ _).alloc (Nat.le_refl _) (.cells (recC r A1 c1') 27)))
        have HX := Lib.hid (Box.new wr 27 (recC r A1 c1'))
        have HRV := Lib.hid (hR.below ((Below.refl _ _).alloc (Nat.le_refl _) (.cells (recC r A1 c1') 27)))
        have hrc : ∀ (w : World), Box w wr.heap.size 27 (recC r A1 c1') → _ := fun w h => rec_cells h
        have HML : Hid (M.length ≤ 1000) := Lib.hid (by
          have h1 := congrArg List.length HP2.out.res
          rw [List.length_map] at h1
          have h2 := res_le t (L.take k)
          rw [List.length_take] at h2
          omega)
        clear hca hx hR hbl
        unfold recV recC at *
        rcases hre with he | he
        · rw [he] at d2
          have d3 := c3 r A1 c1' he
          have d4 := fun w (h : RIn w r A1 c1') => copy_c r A1 c1' w h (recE_parts he).1 (recE_parts he).2.1 (by have := (recE_parts he).2.2.1; omega) (recE_parts he).2.2.2
          have HE := Lib.hid he
          clear c3 he
          unfold CopiedR recV recC at d4
          go_wp2_with fail
          with_reducible refine (d2 _ HRV.out).mono ?_
          rintro en w2 ⟨rfl, hb2⟩
          have HP3 := Lib.hid (HV.out.later hb2)
          have HX3 := Lib.hid (HX.out.later hb2)
          have HR3 := Lib.hid (HRV.out.below hb2)
          clear hb2 d2 HV HX HRV HR HP2 y0 y1 y2 y3 y4 y5 y6
          obtain ⟨x0, x1, x2, x3⟩ := hc _ HP3.out.bx
          obtain ⟨z0, z1, z2, z3, z4, z5, z6⟩ := hrc _ HX3.out
          go_wp2_with fail
          with_reducible refine (d3 _ (HT.out.below HP3.out.bx.bel) HR3.out (HTb.out.below HP3.out.bx.bel)).mono ?_
          rintro en w3 ⟨rfl, hb3⟩
          have HP4 := Lib.hid (HP3.out.later hb3)
          have HX4 := Lib.hid (HX3.out.later hb3)
          have HR4 := Lib.hid (HR3.out.below hb3)
          clear hb3 d3 HP3 HX3 HR3 x0 x1 x2 x3 z0 z1 z2 z3 z4 z5 z6
          have HNo := Lib.hid (fun h2 => HP4.out.no HXK.out HE.out h2)
          have HYes := Lib.hid (fun w w' e' B2 y (h : PcS W t A c L k B' e0 M w) h2 hy => PcS.yes (w' := w') (e' := e') (B' := B2) (y := y) h HXK.out HE.out h2 hy)
          simp only at HNo HYes
          generalize letsG r 6 t = bl at *
          cases bl with
          | false =>
            have HNN := Lib.hid (HNo.out rfl)
            clear HNo HYes HP4 HX4 HR4 d4
            go_wp2_with fail
            go_roundw
            case rel => exact ⟨k + 1, M, B', e0, by go_num, hk, rfl, HNN.out⟩
            case measure => simp [intOf]; omega
          | true =>
            obtain ⟨z0, z1, z2, z3, z4, z5, z6⟩ := hrc _ HX4.out
            clear HNo
            go_wp2_with fail
            with_reducible refine (d4 _ HR4.out).mono ?_
            rintro en w4 ⟨A2, c2, rfl, hown4, hb4⟩
            have hsz3 := HP4.out.bx.bel.size
            have hal2 : Below w4.heap.size w4 (w4.alloc (.cells #[.int .i64 r.place, .int .i64 r.time, .bool r.bare, .string r.key, .bool r.gone, .string r.value, .slice A2 r.heads.length c2] 27)) := (Below.refl _ _).alloc (Nat.le_refl _) _
            have HP6 := Lib.hid ((HP4.out.later hb4).later hal2)
            have HOW := Lib.hid (own_below (own_base hown4 hsz3) hal2)
            have hrow := HP6.out.row.row
            have hnews := news_at (Box.new w4 27 (recC r A2 c2))
            have hone := rec_one r A2 c2
            have hsz2 := HP6.out.bx.bel.size
            unfold recC at hnews hone
            have HNW := Lib.hid (And.intro hnews hone)
            clear hal2 hnews hone hown4 hb4 d4 HP4 HX4 HR4 z0 z1 z2 z3 z4 z5 z6
            go_wp2_with (at_builtin; refine wpList_append_own_at _ rfl _ _ 33 rfl W.heap.size 27 i0 _ 7 88 Tryd.underlying33 hi hz0 hz1 hz2 recC_zero (by decide) (.slice B' M.length e0) M.length (recsC M) rfl hrow ⟨w4.heap.size, 0, none⟩ 1 1 [.int .i64 r.place, .int .i64 r.time, .bool r.bare, .string r.key, .bool r.gone, .string r.value, .slice A2 r.heads.length c2] rfl rfl HNW.out.1 HNW.out.2 (by have := HML.out; unfold maxLen; omega) (by have := HML.out; omega) hsz2 ?_)
            intro v' w5 hown' hgrow _ _
            obtain ⟨g', cap', rfl⟩ := own_slice hown'
            have HP7 := Lib.hid (HYes.out _ w5 cap' g' (r, A2, c2) HP6.out (by trivial) rfl HOW.out hown' hgrow)
            clear hown' hgrow hrow
            go_wp2
            go_roundw
            case rel => exact ⟨k + 1, M ++ [(r, A2, c2)], g', cap', by go_num, hk, by rw [List.length_append]; rfl, HP7.out⟩
            case measure => simp [intOf]; omega
        · rw [he] at d2
          have HBad := Lib.hid (fun w hb => hgb w (fun h => by have := h.2 _ hxm; simp only at this; rw [he] at this; cases this) hb)
          clear c3 he hgb hgo
          go_wp2_with fail
          with_reducible refine (d2 _ HRV.out).mono ?_
          rintro en w2 ⟨rfl, hb2⟩
          have hb := (HV.out.later hb2).bx.bel
          clear hb2 d2 HV HX HRV HR HP2 y0 y1 y2 y3 y4 y5 y6
          go_wp2_with fail
          go_ret2
          exact HBad.out _ hb
      · have hF : k = L.length := by omega
        subst hF
        have hok := HP2.out.ok
        have hres := HP2.out.res
        rw [List.take_length] at hok hres
        have hmok : ∀ y ∈ M, recE y.1 = 0 := fun y hy => by
          have : y.1 ∈ M.map (·.1) := List.mem_map_of_mem hy
          rw [hres] at this
          unfold resL at this
          obtain ⟨z, hz, e⟩ := List.mem_map.1 (List.mem_filter.1 this).1
          rw [← e]; exact hok z hz
        have HG := Lib.hid (hgo wr M B' e0 (HGD.out hok) hres (HP2.out.row.rsin hmok) HP2.out.bx.bel)
        clear HP2 hgo hgb hok hres hmok
        go_wp2_with fail
        go_ret2
        exact HG.out
  · rw [hk0] at c1
    have HBad := Lib.hid (fun w hb => hgb w (fun h => by have := h.1; omega) hb)
    clear hk0 hgb hgo
    unfold exV exC at *
    go_enter Tryd.func13, Tryd.ntmps13
    go_wp2_with fail
    with_reducible refine (c1 _ (HT.out.below HB.out.bel)).mono ?_
    rintro en w1 ⟨rfl, hb1⟩
    have hb := (HB.out.later hb1).bel
    clear hb1 c1 x0 x1 x2 x3 HB
    go_wp2_with fail
    go_ret2
    exact HBad.out _ hb
end Go.Proofs.YtmnmgbbdjpfonaaDoor
/- match: Pick, the document's, by a contract. Condition: the tables of utf8. -/
namespace Go.Proofs.YtmnmgbbdjpfonaaDoor
open Go.RowKit
set_option linter.unusedVariables false
structure PrS (W : World) (t : Tr) (A : Option Addr) (c : Nat) (L : List RX) (k : Nat) (B : Option Addr) (e : Nat) (M : List RX) (w : World) : Prop where
  row : w.ownsRow W.heap.size 27 7 (.slice B M.length e) M.length (recsC M)
  bx : Boxed W t A c w
  res : M = (L.take k).filter (fun x => letsG x.1 6 t)
  ok : ∀ y ∈ L.take k, recE y.1 = 0
theorem PrS.later {W w w' : World} {t : Tr} {A : Option Addr} {c k e : Nat} {L M : List RX} {B : Option Addr} (h : PrS W t A c L k B e M w) (hb : Below w.heap.size w w') : PrS W t A c L k B e M w' :=
  ⟨own_below h.row hb, h.bx.later hb, h.res, h.ok⟩
theorem PrS.no {W w : World} {t : Tr} {A : Option Addr} {c k e : Nat} {L M : List RX} {B : Option Addr} {x : RX} (h : PrS W t A c L k B e M w) (hx : L[k]? = some x) (h1 : recE x.1 = 0) (h2 : letsG x.1 6 t = false) : PrS W t A c L (k + 1) B e M w :=
  ⟨h.row, h.bx, by rw [List.take_add_one, hx, Option.toList_some, List.filter_append, h.res]; simp [h2], ok_snoc hx h.ok h1⟩
theorem PrS.yes {W w w' : World} {t : Tr} {A : Option Addr} {c k e e' : Nat} {L M : List RX} {B B' : Option Addr} {x : RX} (h : PrS W t A c L k B e M w) (hx : L[k]? = some x) (h1 : recE x.1 = 0) (h2 : letsG x.1 6 t = true)
    (ho : w'.ownsRow W.heap.size 27 7 (.slice B' (M.length + 1) e') (M.length + 1) (recsC M ++ (recC x.1 x.2.1 x.2.2).toList)) (hg : w.grownBy w' (Value.slice B M.length e).ownBlock) : PrS W t A c L (k + 1) B' e' (M ++ [x]) w' := by
  refine ⟨by rw [recsC_snoc, List.length_append]; exact ho, ⟨h.bx.box.kept_by hg (.inr (fun e => own_ne h.row h.bx.box (by decide) _ e rfl)), h.bx.bel.grown hg h.bx.bel.size (fun j e => (h.row.lt j e).1)⟩, ?_, ok_snoc hx h.ok h1⟩
  rw [List.take_add_one, hx, Option.toList_some, List.filter_append, ← h.res]
  simp [h2]
theorem res_of (t : Tr) (L : List RX) : (L.filter (fun x => letsG x.1 6 t)).map (·.1) = resL t L := by
  unfold resL
  rw [List.filter_map]
  rfl
theorem rl_later {W w w' : World} {t : Tr} {A Ar : Option Addr} {c b o cr : Nat} {r : Rec} (h : w.cell? ⟨W.heap.size, 0, none⟩ = some (.int .i64 t.op) ∧ w.cell? ⟨W.heap.size, 1, none⟩ = some (.string t.name) ∧ w.cell? ⟨W.heap.size, 2, none⟩ = some (.string t.value) ∧ w.cell? ⟨W.heap.size, 3, none⟩ = some (.slice A t.kids.length c) ∧ w.cell? ⟨b, o, none⟩ = some (.int .i64 r.place) ∧ w.cell? ⟨b, o + 1, none⟩ = some (.int .i64 r.time) ∧ w.cell? ⟨b, o + 2, none⟩ = some (.bool r.bare) ∧ w.cell? ⟨b, o + 3, none⟩ = some (.string r.key) ∧ w.cell? ⟨b, o + 4, none⟩ = some (.bool r.gone) ∧ w.cell? ⟨b, o + 5, none⟩ = some (.string r.value) ∧ w.cell? ⟨b, o + 6, none⟩ = some (.slice Ar r.heads.length cr) ∧ W.heap.size < w.heap.size ∧ b < w.heap.size) (hb : Below w.heap.size w w') : w'.cell? ⟨W.heap.size, 0, none⟩ = some (.int .i64 t.op) ∧ w'.cell? ⟨W.heap.size, 1, none⟩ = some (.string t.name) ∧ w'.cell? ⟨W.heap.size, 2, none⟩ = some (.string t.value) ∧ w'.cell? ⟨W.heap.size, 3, none⟩ = some (.slice A t.kids.length c) ∧ w'.cell? ⟨b, o, none⟩ = some (.int .i64 r.place) ∧ w'.cell? ⟨b, o + 1, none⟩ = some (.int .i64 r.time) ∧ w'.cell? ⟨b, o + 2, none⟩ = some (.bool r.bare) ∧ w'.cell? ⟨b, o + 3, none⟩ = some (.string r.key) ∧ w'.cell? ⟨b, o + 4, none⟩ = some (.bool r.gone) ∧ w'.cell? ⟨b, o + 5, none⟩ = some (.string r.value) ∧ w'.cell? ⟨b, o + 6, none⟩ = some (.slice Ar r.heads.length cr) ∧ W.heap.size < w'.heap.size ∧ b < w'.heap.size := by
  obtain ⟨h1, h2, h3, h4, k0, k1, k2, k3, k4, k5, k6, hl1, hl2⟩ := h
  have u := fun i => hb.cell (p := ⟨W.heap.size, i, none⟩) hl1
  have v := fun i => hb.cell (p := ⟨b, i, none⟩) hl2
  exact ⟨(u _).trans h1, (u _).trans h2, (u _).trans h3, (u _).trans h4, (v _).trans k0, (v _).trans k1, (v _).trans k2, (v _).trans k3, (v _).trans k4, (v _).trans k5, (v _).trans k6, Nat.lt_of_lt_of_le hl1 hb.size, Nat.lt_of_lt_of_le hl2 hb.size⟩
set_option maxHeartbeats 16000000 in
set_option maxRecDepth 100000 in
theorem rpick_c (n : Nat) (t : Tr) (A : Option Addr) (c : Nat) (L : List RX) (B : Option Addr) (d : Nat) (W : World) (hT : TrAt (fun _ => True) W n A t) (hL : RsIn W B L) (hTb : Tabs W) (hl : L.length ≤ 1000) :
    Calls Tryd.prog 14 #[exV t A c, .slice B L.length d] W (GotP W (goodL t L) (resL t L)) := by
  have c1 := fun w (h : TrAt (fun _ => True) w n A t) => rCheck_c (fun _ => True) n t A c w h
  have HB := Lib.hid (Boxed.start W t A c)
  have hc : ∀ w, Boxed W t A c w → _ := fun w h => h.cells
  have HT := Lib.hid hT
  have HL := Lib.hid hL
  have HTb := Lib.hid hTb
  have hce : checkG t = 0 ∨ checkG t = 1 := by unfold checkG; split <;> simp
  have hgb : ∀ w, ¬ goodL t L → Below W.heap.size W w → _ := fun w h hb => GotP.bad (R := resL t L) h hb
  have hgo : ∀ w M A' c', goodL t L → M.map (·.1) = resL t L → RsIn w A' M → Below W.heap.size W w → _ := fun w M A' c' h1 h2 h3 h4 => GotP.ok (c := c') h1 h2 h3 h4
  obtain ⟨x0, x1, x2, x3⟩ := HB.out.cells
  obtain ⟨i0, hi, hz0, hz1, hz2⟩ := info_parts recInfo
  clear hT hL hTb
  rcases hce with hk0 | hk0
  · rw [hk0] at c1
    have c3 := fun (r : Rec) Ar cr w (h : TrAt (fun _ => True) w n A t) (hi : RIn w r Ar cr) (hb : Tabs w) => rmatch_c n t A c r Ar cr w h hi hb
    have hmo : ∀ r, recE r = 0 → matchG t r = (letsG r 6 t, 0) := fun r h => by unfold matchG; rw [if_pos ⟨hk0, h⟩]
    have hmb : ∀ r, recE r = 1 → matchG t r = (false, 1) := fun r h => by unfold matchG; rw [if_neg (by rw [h]; omega)]
    have hgood : (∀ x ∈ L, recE x.1 = 0) → goodL t L := fun h => ⟨hk0, h⟩
    have HGD := Lib.hid hgood
    have HP0 : Hid (PrS W t A c L 0 none 0 [] (W.alloc (.cells (exC t A c) 24))) := Lib.hid ⟨World.ownsRow_nil _ _ _ _, HB.out, rfl, fun y hy => by simp at hy⟩
    clear hk0 HB hgood
    unfold exV exC at *
    go_enter Tryd.func14, Tryd.ntmps14
    go_wp2_with fail
    with_reducible refine (c1 _ (HT.out.below HP0.out.bx.bel)).mono ?_
    rintro en w1 ⟨rfl, hb1⟩
    have HP1 := Lib.hid (HP0.out.later hb1)
    clear hb1 c1 x0 x1 x2 x3 HP0
    go_wp2_with fail
    go_loopw [6, 7] (fun a i wr => ∃ (k : Nat) (M : List RX) (B' : Option Addr) (e : Nat), i = .int .i64 k ∧ k ≤ L.length ∧ a = .slice B' M.length e ∧ PrS W t A c L k B' e M wr) (fun _ i _ => L.length - (intOf i).toNat)
    case atStart => exact ⟨0, [], none, 0, rfl, Nat.zero_le _, rfl, HP1.out⟩
    case round =>
      obtain ⟨k, M, B', e0, rfl, hkl, rfl, hP⟩ := hrel
      have HP2 := Lib.hid hP
      clear hP HP1
      by_cases hk : k < L.length
      · obtain ⟨x, hx⟩ : ∃ x, L[k]? = some x := ⟨_, List.getElem?_eq_getElem hk⟩
        obtain ⟨b, off, rfl, hbl, hca⟩ := (HL.out.below HP2.out.bx.bel) (by omega)
        obtain ⟨⟨y0, y1, y2, y3, y4, y5, y6⟩, hR⟩ := hca k x hx
        have HXK := Lib.hid hx
        have hxm := List.mem_of_getElem? hx
        obtain ⟨r, A1, c1'⟩ := x
        simp only at y0 y1 y2 y3 y4 y5 y6 hR
        have HR := Lib.hid hR
        obtain ⟨x0, x1, x2, x3⟩ := hc _ HP2.out.bx
        have hre : recE r = 0 ∨ recE r = 1 := by unfold recE; split <;> simp
        have hki : (k : Int) < (L.length : Int) := by omega
        have d3 := fun w (hb : Below wr.heap.size wr w) => c3 r A1 c1' w ((HT.out.below HP2.out.bx.bel).below hb) (hR.below hb) ((HTb.out.below HP2.out.bx.bel).below hb)
        have HML : Hid (M.length ≤ 1000) := Lib.hid (by
          have h1 := congrArg List.length HP2.out.res
          have h2 := List.length_filter_le (fun x : RX => letsG x.1 6 t) (L.take k)
          rw [List.length_take] at h2
          omega)
        have hcy : ∀ w, Below wr.heap.size wr w → RxAt w b (off + k * 7) (r, A1, c1') := fun w hb => RxAt.below (w := wr) ⟨y0, y1, y2, y3, y4, y5, y6⟩ hbl hb
        clear hca hx hR c3
        rcases hre with he | he
        · rw [hmo r he] at d3
          have HE := Lib.hid he
          clear he hmo hmb
          have HNo := Lib.hid (fun w (h : PrS W t A c L k B' e0 M w) h2 => h.no HXK.out HE.out h2)
          have HYes := Lib.hid (fun w w' e' B2 (h : PrS W t A c L k B' e0 M w) h2 => PrS.yes (w' := w') (e' := e') (B' := B2) h HXK.out HE.out h2)
          simp only at HNo HYes
          generalize letsG r 6 t = bl at *
          unfold recV recC Told at *
          have hS := And.intro x0 (And.intro x1 (And.intro x2 (And.intro x3 (And.intro y0 (And.intro y1 (And.intro y2 (And.intro y3 (And.intro y4 (And.intro y5 (And.intro y6 (And.intro HP2.out.bx.box.lt hbl)))))))))))
          go_wp2_with fail
          go_region_held3 (fun w => w.cell? ⟨W.heap.size, 0, none⟩ = some (.int .i64 t.op) ∧ w.cell? ⟨W.heap.size, 1, none⟩ = some (.string t.name) ∧ w.cell? ⟨W.heap.size, 2, none⟩ = some (.string t.value) ∧ w.cell? ⟨W.heap.size, 3, none⟩ = some (.slice A t.kids.length c) ∧ w.cell? ⟨b, off + k * 7, none⟩ = some (.int .i64 r.place) ∧ w.cell? ⟨b, off + k * 7 + 1, none⟩ = some (.int .i64 r.time) ∧ w.cell? ⟨b, off + k * 7 + 2, none⟩ = some (.bool r.bare) ∧ w.cell? ⟨b, off + k * 7 + 3, none⟩ = some (.string r.key) ∧ w.cell? ⟨b, off + k * 7 + 4, none⟩ = some (.bool r.gone) ∧ w.cell? ⟨b, off + k * 7 + 5, none⟩ = some (.string r.value) ∧ w.cell? ⟨b, off + k * 7 + 6, none⟩ = some (.slice A1 r.heads.length c1') ∧ W.heap.size < w.heap.size ∧ b < w.heap.size)
            (first | exact rl_later hS ((Below.refl _ _).drew) | exact rl_later (by assumption) (by assumption))
            (first | ((with_reducible refine (d3 _ ((Below.refl _ _).drew)).mono ?_); rintro e w2 ⟨rfl, hb2⟩))
          all_goals have HP3 := Lib.hid (HP2.out.later (((Below.refl _ _).drew).trans hb2))
          all_goals obtain ⟨z0, z1, z2, z3, z4, z5, z6⟩ := hcy _ (((Below.refl _ _).drew).trans hb2)
          all_goals clear hb2 d3 x0 x1 x2 x3 y0 y1 y2 y3 y4 y5 y6 hS HP2 hcy
          all_goals simp only at z0 z1 z2 z3 z4 z5 z6
          all_goals
            cases bl with
            | false =>
              have HNN := Lib.hid (HNo.out _ HP3.out rfl)
              clear HNo HYes HP3 z0 z1 z2 z3 z4 z5 z6
              go_wp2_with fail
              go_roundw
              case rel => exact ⟨k + 1, M, B', e0, by go_num, hk, rfl, HNN.out⟩
              case measure => simp [intOf]; omega
            | true =>
              clear HNo
              have HP6 := Lib.hid (HP3.out.later ((Below.refl _ _).alloc (Nat.le_refl _) (.cells #[.int .i64 r.place, .int .i64 r.time, .bool r.bare, .string r.key, .bool r.gone, .string r.value, .slice A1 r.heads.length c1'] 27)))
              have hrow := HP6.out.row
              have hnews := news_at (Box.new w2 27 (recC r A1 c1'))
              have hone := rec_one r A1 c1'
              have hsz2 := HP6.out.bx.bel.size
              unfold recC at hnews hone
              have HNW := Lib.hid (And.intro hnews hone)
              clear hnews hone HP3
              go_wp2_with (at_builtin; refine wpList_append_own_at _ rfl _ _ 33 rfl W.heap.size 27 i0 _ 7 88 Tryd.underlying33 hi hz0 hz1 hz2 recC_zero (by decide) (.slice B' M.length e0) M.length (recsC M) rfl hrow ⟨w2.heap.size, 0, none⟩ 1 1 [.int .i64 r.place, .int .i64 r.time, .bool r.bare, .string r.key, .bool r.gone, .string r.value, .slice A1 r.heads.length c1'] rfl rfl HNW.out.1 HNW.out.2 (by have := HML.out; unfold maxLen; omega) (by have := HML.out; omega) hsz2 ?_)
              intro v' w5 hown' hgrow _ _
              obtain ⟨g', cap', rfl⟩ := own_slice hown'
              have HP7 := Lib.hid (HYes.out _ w5 cap' g' HP6.out (by trivial) hown' hgrow)
              clear hown' hgrow hrow
              go_wp2
              go_roundw
              case rel => exact ⟨k + 1, M ++ [(r, A1, c1')], g', cap', by go_num, hk, by rw [List.length_append]; rfl, HP7.out⟩
              case measure => simp [intOf]; omega
        · rw [hmb r he] at d3
          have HBad := Lib.hid (fun w hb => hgb w (fun h => by have := h.2 _ hxm; simp only at this; rw [he] at this; cases this) hb)
          clear he hgb hgo hmo hmb
          unfold recV recC Told at *
          have hS := And.intro x0 (And.intro x1 (And.intro x2 (And.intro x3 (And.intro y0 (And.intro y1 (And.intro y2 (And.intro y3 (And.intro y4 (And.intro y5 (And.intro y6 (And.intro HP2.out.bx.box.lt hbl)))))))))))
          go_wp2_with fail
          go_region_held3 (fun w => w.cell? ⟨W.heap.size, 0, none⟩ = some (.int .i64 t.op) ∧ w.cell? ⟨W.heap.size, 1, none⟩ = some (.string t.name) ∧ w.cell? ⟨W.heap.size, 2, none⟩ = some (.string t.value) ∧ w.cell? ⟨W.heap.size, 3, none⟩ = some (.slice A t.kids.length c) ∧ w.cell? ⟨b, off + k * 7, none⟩ = some (.int .i64 r.place) ∧ w.cell? ⟨b, off + k * 7 + 1, none⟩ = some (.int .i64 r.time) ∧ w.cell? ⟨b, off + k * 7 + 2, none⟩ = some (.bool r.bare) ∧ w.cell? ⟨b, off + k * 7 + 3, none⟩ = some (.string r.key) ∧ w.cell? ⟨b, off + k * 7 + 4, none⟩ = some (.bool r.gone) ∧ w.cell? ⟨b, off + k * 7 + 5, none⟩ = some (.string r.value) ∧ w.cell? ⟨b, off + k * 7 + 6, none⟩ = some (.slice A1 r.heads.length c1') ∧ W.heap.size < w.heap.size ∧ b < w.heap.size)
            (first | exact rl_later hS ((Below.refl _ _).drew) | exact rl_later (by assumption) (by assumption))
            (first | ((with_reducible refine (d3 _ ((Below.refl _ _).drew)).mono ?_); rintro e w2 ⟨rfl, hb2⟩))
          all_goals have hb := (HP2.out.later (((Below.refl _ _).drew).trans hb2)).bx.bel
          all_goals clear hb2 d3 x0 x1 x2 x3 y0 y1 y2 y3 y4 y5 y6 hS HP2 hcy
          all_goals go_wp2_with fail
          all_goals go_ret2
          all_goals exact HBad.out _ hb
      · have hF : k = L.length := by omega
        subst hF
        have hok := HP2.out.ok
        have hres := HP2.out.res
        rw [List.take_length] at hok hres
        have hin : ∀ y ∈ M, RIn wr y.1 y.2.1 y.2.2 := fun y hy => by
          rw [hres] at hy
          obtain ⟨j, hj, e⟩ := List.getElem_of_mem (List.mem_filter.1 hy).1
          obtain ⟨b, off, _, _, hca⟩ := (HL.out.below HP2.out.bx.bel) (by omega)
          exact (hca j y (by rw [List.getElem?_eq_getElem hj, e])).2
        have HG := Lib.hid (hgo wr M B' e0 (HGD.out hok) (by rw [hres]; exact res_of t L) (rsin_of HP2.out.row hin) HP2.out.bx.bel)
        clear HP2 hgo hgb hok hres hin hmo hmb
        go_wp2_with fail
        go_ret2
        exact HG.out
  · rw [hk0] at c1
    have HBad := Lib.hid (fun w hb => hgb w (fun h => by have := h.1; omega) hb)
    clear hk0 hgb hgo
    unfold exV exC at *
    go_enter Tryd.func14, Tryd.ntmps14
    go_wp2_with fail
    with_reducible refine (c1 _ (HT.out.below HB.out.bel)).mono ?_
    rintro en w1 ⟨rfl, hb1⟩
    have hb := (HB.out.later hb1).bel
    clear hb1 c1 x0 x1 x2 x3 HB
    go_wp2_with fail
    go_ret2
    exact HBad.out _ hb
end Go.Proofs.YtmnmgbbdjpfonaaDoor
/- match: the law MatchPicks, walked. Condition: the tables of utf8. -/
namespace Go.Proofs.YtmnmgbbdjpfonaaDoor
open Go.RowKit
set_option linter.unusedVariables false
theorem res_all {t : Tr} {L : List RX} (h : ∀ x ∈ L, recE x.1 = 0) : ∀ r ∈ resL t L, recE r = 0 ∧ letsG r 6 t = true := by
  intro r hr
  unfold resL at hr
  obtain ⟨h1, h2⟩ := List.mem_filter.1 hr
  obtain ⟨x, hx, e⟩ := List.mem_map.1 h1
  exact ⟨by rw [← e]; exact h x hx, by simpa using h2⟩
theorem of_map {M : List RX} {R : List Rec} (h : M.map (·.1) = R) {P : Rec → Prop} (hR : ∀ r ∈ R, P r) : ∀ x ∈ M, P x.1 := fun x hx => hR _ (by rw [← h]; exact List.mem_map_of_mem hx)
theorem res_again {t : Tr} {L M : List RX} (h : ∀ x ∈ L, recE x.1 = 0) (hM : M.map (·.1) = resL t L) : resL t M = resL t L := by
  have h2 := res_all (t := t) h
  rw [← hM] at h2
  have : resL t M = M.map (·.1) := by
    unfold resL
    rw [List.filter_eq_self]
    intro r hr
    exact (h2 r hr).2
  rw [this, hM]
theorem map_len {M : List RX} {t : Tr} {L : List RX} (h : M.map (·.1) = resL t L) : M.length ≤ L.length := by
  have h1 := congrArg List.length h
  rw [List.length_map] at h1
  rw [h1]; exact res_le t L
set_option maxHeartbeats 16000000 in
set_option maxRecDepth 100000 in
theorem matchPicks_walk (t : Tr) (A : Option Addr) (c n : Nat) (L : List RX) (B : Option Addr) (d : Nat) (W : World) (hT : TrAt (fun _ => True) W n A t) (hL : RsIn W B L) (hll : L.length ≤ 140737488351232) (hTb : Tabs W) :
    Calls Tryd.prog 4 #[exV t A c, .slice B L.length d] W (Yes W) := by
  have cs := fun w (h : TrAt (fun _ => True) w n A t) (hb : Tabs w) => small8_c n t A c (liveR ⟨#[]⟩) none 0 w h (live_in _ (by decide) w) hb
  have cl := fun w (h : Tabs w) => live8_c w h
  have HB := Lib.hid (Boxed.start W t A c)
  have hc : ∀ w, Boxed W t A c w → _ := fun w h => h.cells
  have HT := Lib.hid hT
  have HL := Lib.hid hL
  have HTb := Lib.hid hTb
  obtain ⟨x0, x1, x2, x3⟩ := HB.out.cells
  clear hT hL hTb
  simp only [liveV] at cs
  by_cases h20 : (L.length : Int) ≤ 20
  · cases hs : smB8 t (liveR ⟨#[]⟩) with
    | false =>
      rw [hs] at cs
      clear hs
      unfold exV exC liveC Yes at *
      go_enter Tryd.func4, Tryd.ntmps4
      go_wp2_with fail
      with_reducible refine (cs _ (HT.out.below HB.out.bel) (HTb.out.below HB.out.bel)).mono ?_
      rintro en w1 ⟨rfl, hb1⟩
      have HB1 := Lib.hid (HB.out.later hb1)
      clear hb1 cs x0 x1 x2 x3 HB
      go_wp2_with fail
      with_reducible refine (cl _ (HTb.out.below HB1.out.bel)).mono ?_
      rintro en w2 ⟨rfl, hb2⟩
      have hb := (HB1.out.later hb2).bel
      clear hb2 cl HB1
      go_wp2_with fail
      go_ret
      exact ⟨rfl, hb⟩
    | true =>
      rw [hs] at cs
      have hd := sm8_dep hs
      have cp := fun (M : List RX) A' c' w (h : TrAt (fun _ => True) w n A t) (hi : RsIn w A' M) (hb : Tabs w) (hm : M.length ≤ 1000) => pick_c t A c M A' c' w (trAt_to h hd) hi hb hm
      have cr := fun w (h : TrAt (fun _ => True) w n A t) (hi : RsIn w B L) (hb : Tabs w) => rpick_c n t A c L B d w h hi hb (by omega)
      clear hs hd
      unfold exV exC liveC Yes at *
      go_enter Tryd.func4, Tryd.ntmps4
      go_wp2_with fail
      with_reducible refine (cs _ (HT.out.below HB.out.bel) (HTb.out.below HB.out.bel)).mono ?_
      rintro en w1 ⟨rfl, hb1⟩
      have HB1 := Lib.hid (HB.out.later hb1)
      clear hb1 cs x0 x1 x2 x3 HB
      go_wp2_with fail
      go_loopw [5] (fun i wr => ∃ k : Nat, i = .int .i64 k ∧ k ≤ L.length ∧ Boxed W t A c wr) (fun i _ => L.length - (intOf i).toNat)
      case atStart => exact ⟨0, rfl, Nat.zero_le _, HB1.out⟩
      case round =>
        obtain ⟨k, rfl, hkl, hP⟩ := hrel
        have HB2 := Lib.hid hP
        clear hP HB1
        by_cases hk : k < L.length
        · obtain ⟨x, hx⟩ : ∃ x, L[k]? = some x := ⟨_, List.getElem?_eq_getElem hk⟩
          obtain ⟨b, off, rfl, hbl, hca⟩ := (HL.out.below HB2.out.bel) (by omega)
          obtain ⟨⟨y0, y1, y2, y3, y4, y5, y6⟩, hR⟩ := hca k x hx
          have hki : (k : Int) < (L.length : Int) := by omega
          clear hca hR hx cp cr
          by_cases hh : (x.1.heads.length : Int) ≤ 20
          · go_wp2_with fail
            go_roundw
            case rel => exact ⟨k + 1, by go_num, hk, HB2.out⟩
            case measure => simp [intOf]; omega
          · go_wp2_with fail
            with_reducible refine (cl _ (HTb.out.below HB2.out.bel)).mono ?_
            rintro en w2 ⟨rfl, hb2⟩
            have hb := (HB2.out.later hb2).bel
            clear hb2 cl HB2
            go_wp2_with fail
            go_ret
            exact ⟨rfl, hb⟩
        · obtain ⟨x0, x1, x2, x3⟩ := hc _ HB2.out
          go_wp2_with fail
          with_reducible refine (cp L B d _ (HT.out.below HB2.out.bel) (HL.out.below HB2.out.bel) (HTb.out.below HB2.out.bel) (by omega)).mono ?_
          rintro en w3 ⟨hen, hb3⟩
          have HB3 := Lib.hid (HB2.out.later hb3)
          clear hb3 x0 x1 x2 x3 HB2
          obtain ⟨x0, x1, x2, x3⟩ := hc _ HB3.out
          rcases hen with ⟨hgd, M, A2, c2, hM, rfl, hMi⟩ | ⟨hgd, rfl⟩
          · have HMI := Lib.hid hMi
            have HMM := Lib.hid hM
            have HGD := Lib.hid hgd
            clear hMi hM hgd
            go_wp2_with fail
            with_reducible refine (cr _ (HT.out.below HB3.out.bel) (HL.out.below HB3.out.bel) (HTb.out.below HB3.out.bel)).mono ?_
            rintro en w4 ⟨hen, hb4⟩
            have HB4 := Lib.hid (HB3.out.later hb4)
            have HMI4 := Lib.hid (HMI.out.below hb4)
            clear hb4 x0 x1 x2 x3 HB3 HMI cr
            rcases hen with ⟨_, N, A3, c3, hN, rfl, hNi⟩ | ⟨hgd2, rfl⟩
            · have hall := res_all (t := t) HGD.out.2
              have cS := fun w hA hB => rsameAll_c M N A2 A3 c2 c3 w hA hB (by rw [HMM.out, hN]) (by have := map_len HMM.out; omega) (fun x hx => by have := (recE_parts (of_map HMM.out (fun r hr => (hall r hr).1) x hx)).2.2.1; omega)
              have HNI := Lib.hid hNi
              clear hNi hN
              go_wp2_with fail
              with_reducible refine (cS _ HMI4.out HNI.out).mono ?_
              rintro en w5 ⟨rfl, hb5⟩
              have HB5 := Lib.hid (HB4.out.later hb5)
              have HMI5 := Lib.hid (HMI4.out.below hb5)
              clear hb5 cS HB4 HMI4 HNI
              obtain ⟨x0, x1, x2, x3⟩ := hc _ HB5.out
              go_wp2_with fail
              with_reducible refine (cp M A2 c2 _ (HT.out.below HB5.out.bel) HMI5.out (HTb.out.below HB5.out.bel) (by have := map_len HMM.out; omega)).mono ?_
              rintro en w6 ⟨hen, hb6⟩
              have HB6 := Lib.hid (HB5.out.later hb6)
              have HMI6 := Lib.hid (HMI5.out.below hb6)
              clear hb6 x0 x1 x2 x3 HB5 HMI5 cp
              rcases hen with ⟨_, N, A3, c3, hN, rfl, hNi⟩ | ⟨hgd2, rfl⟩
              · have cS := fun w hA hB => rsameAll_c M N A2 A3 c2 c3 w hA hB (by rw [HMM.out, hN, res_again HGD.out.2 HMM.out]) (by have := map_len HMM.out; omega) (fun x hx => by have := (recE_parts (of_map HMM.out (fun r hr => (hall r hr).1) x hx)).2.2.1; omega)
                have HNI := Lib.hid hNi
                clear hNi hN hall
                go_wp2_with fail
                with_reducible refine (cS _ HMI6.out HNI.out).mono ?_
                rintro en w7 ⟨rfl, hb7⟩
                have HB7 := Lib.hid (HB6.out.later hb7)
                clear hb7 cS HB6 HMI6 HNI
                go_wp2_with fail
                with_reducible refine (cl _ (HTb.out.below HB7.out.bel)).mono ?_
                rintro en w8 ⟨rfl, hb8⟩
                have hb := (HB7.out.later hb8).bel
                clear hb8 cl HB7
                go_wp2_with fail
                go_ret
                exact ⟨rfl, hb⟩
              · exact absurd ⟨HGD.out.1, of_map HMM.out (fun r hr => (hall r hr).1)⟩ hgd2
            · exact absurd HGD.out hgd2
          · have HGD := Lib.hid hgd
            clear hgd
            go_wp2_with fail
            with_reducible refine (cr _ (HT.out.below HB3.out.bel) (HL.out.below HB3.out.bel) (HTb.out.below HB3.out.bel)).mono ?_
            rintro en w4 ⟨hen, hb4⟩
            have HB4 := Lib.hid (HB3.out.later hb4)
            clear hb4 x0 x1 x2 x3 HB3 cr
            rcases hen with ⟨hgd2, _⟩ | ⟨_, rfl⟩
            · exact absurd hgd2 HGD.out
            · have cS := fun w => rsameAll_c [] [] none none 0 0 w (fun hp => absurd hp (by simp)) (fun hp => absurd hp (by simp)) rfl (by simp) (fun x hx => by cases hx)
              have cn := fun w h hb => cp [] none 0 w h (fun hp => absurd hp (by simp)) hb (by simp)
              simp only [List.length_nil] at cS cn
              clear cp
              go_wp2_with fail
              with_reducible refine (cS _).mono ?_
              rintro en w5 ⟨rfl, hb5⟩
              have HB5 := Lib.hid (HB4.out.later hb5)
              clear hb5 cS HB4
              obtain ⟨x0, x1, x2, x3⟩ := hc _ HB5.out
              go_wp2_with fail
              with_reducible refine (cn _ (HT.out.below HB5.out.bel) (HTb.out.below HB5.out.bel)).mono ?_
              rintro en w6 ⟨hen, hb6⟩
              have HB6 := Lib.hid (HB5.out.later hb6)
              clear hb6 x0 x1 x2 x3 HB5 cn
              rcases hen with ⟨_, N, A3, c3, _, rfl, _⟩ | ⟨_, rfl⟩
              all_goals go_wp2_with fail
              all_goals with_reducible refine (cl _ (HTb.out.below HB6.out.bel)).mono ?_
              all_goals rintro en w8 ⟨rfl, hb8⟩
              all_goals have hb := (HB6.out.later hb8).bel
              all_goals clear hb8 cl HB6
              all_goals go_wp2_with fail
              all_goals go_ret
              all_goals exact ⟨rfl, hb⟩
  · clear cs
    unfold exV exC Yes at *
    go_enter Tryd.func4, Tryd.ntmps4
    go_wp2_with fail
    with_reducible refine (cl _ (HTb.out.below HB.out.bel)).mono ?_
    rintro en w2 ⟨rfl, hb2⟩
    have hb := (HB.out.later hb2).bel
    clear hb2 cl HB
    go_wp2_with fail
    go_ret
    exact ⟨rfl, hb⟩
end Go.Proofs.YtmnmgbbdjpfonaaDoor
