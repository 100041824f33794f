/- match: Pick of records without headers: how many, by a contract. Condition: the tables of utf8. -/
import Derived.Test.YtmnmgbbdjpfonaaDoorMtCp
import Derived.Test.YtmnmgbbdjpfonaaDoorMtLet
import Derived.Maps.AppendAt
namespace Go.Proofs.YtmnmgbbdjpfonaaDoor
open Go.RowKit
set_option linter.unusedVariables false
theorem recInfo : (Tryd.prog.info? 27).map (fun i => (i.zero, i.size, i.bytes)) = some (some (.agg #[.int .i64 0, .int .i64 0, .bool false, .string ⟨#[]⟩, .bool false, .string ⟨#[]⟩, .slice none 0 0]), 7, 88) := by kernel_rfl
theorem recC_zero : (Value.agg #[.int .i64 0, .int .i64 0, .bool false, .string ⟨#[]⟩, .bool false, .string ⟨#[]⟩, .slice none 0 0]).cells.size = 7 := rfl
theorem news_at {w : World} {g : Nat} {t : TypeId} {cs : Array Value} (h : Box w g t cs) : ∀ j u, cs.toList[j]? = some u → w.cell? ((⟨g, 0, none⟩ : Addr).add j) = some u := by
  intro j u hu
  have e1 : (⟨g, 0, none⟩ : Addr).add j = ⟨g, j, none⟩ := by unfold Addr.add; split <;> simp_all
  rw [e1, h.cell j]
  simpa using hu
theorem live_one (v : ByteArray) : ∀ u ∈ (liveC v).toList, u.oneCell' = true := by
  intro u hu
  unfold liveC at hu
  simp at hu
  rcases hu with rfl | rfl | rfl | rfl | rfl | rfl | rfl <;> rfl
/-- Records without headers, one behind the other. -/
def LvIn (w : World) (q : Nat) (L : List ByteArray) : Prop := q < w.heap.size ∧ ∀ j v, L[j]? = some v →
  w.cell? ⟨q, j * 7, none⟩ = some (.int .i64 0) ∧ w.cell? ⟨q, j * 7 + 1, none⟩ = some (.int .i64 0) ∧ w.cell? ⟨q, j * 7 + 2, none⟩ = some (.bool false) ∧ w.cell? ⟨q, j * 7 + 3, none⟩ = some (.string ⟨#[]⟩) ∧
  w.cell? ⟨q, j * 7 + 4, none⟩ = some (.bool false) ∧ w.cell? ⟨q, j * 7 + 5, none⟩ = some (.string v) ∧ w.cell? ⟨q, j * 7 + 6, none⟩ = some (.slice none 0 0)
theorem LvIn.below {w w' : World} {q : Nat} {L : List ByteArray} (h : LvIn w q L) (hb : Below w.heap.size w w') : LvIn w' q L := by
  obtain ⟨hl, hc⟩ := h
  refine ⟨Nat.lt_of_lt_of_le hl hb.size, fun j v hj => ?_⟩
  obtain ⟨h0, h1, h2, h3, h4, h5, h6⟩ := hc j v hj
  have c := fun i => hb.cell (p := ⟨q, i, none⟩) hl
  exact ⟨(c _).trans h0, (c _).trans h1, (c _).trans h2, (c _).trans h3, (c _).trans h4, (c _).trans h5, (c _).trans h6⟩
/-- How many of the first k are let through. -/
def cntL (t : Tr) (L : List ByteArray) (k : Nat) : Nat := ((L.take k).filter (fun v => letsG (liveR v) 6 t)).length
theorem cntL_yes {t : Tr} {L : List ByteArray} {k : Nat} {v : ByteArray} (hk : L[k]? = some v) (h : letsG (liveR v) 6 t = true) : cntL t L (k + 1) = cntL t L k + 1 := by
  unfold cntL; rw [List.take_add_one, hk, Option.toList_some, List.filter_append]; simp [h]
theorem cntL_no {t : Tr} {L : List ByteArray} {k : Nat} {v : ByteArray} (hk : L[k]? = some v) (h : letsG (liveR v) 6 t = false) : cntL t L (k + 1) = cntL t L k := by
  unfold cntL; rw [List.take_add_one, hk, Option.toList_some, List.filter_append]; simp [h]
theorem cntL_le (t : Tr) (L : List ByteArray) (k : Nat) : cntL t L k ≤ L.length := by
  unfold cntL
  have h1 := List.length_filter_le (fun v => letsG (liveR v) 6 t) (L.take k)
  have h2 := List.length_take_le k L
  rw [List.length_take] at h1
  omega
structure PkS (W : World) (t : Tr) (A : Option Addr) (c : Nat) (v : Value) (n : Nat) (xs : List Value) (w : World) : Prop where
  row : w.ownsRow W.heap.size 27 7 v n xs
  bx : Boxed W t A c w
theorem PkS.later {W w w' : World} {t : Tr} {A : Option Addr} {c n : Nat} {v : Value} {xs : List Value} (h : PkS W t A c v n xs w) (hb : Below w.heap.size w w') : PkS W t A c v n xs w' :=
  ⟨own_below h.row hb, h.bx.later hb⟩
theorem PkS.grow {W w w' : World} {t : Tr} {A : Option Addr} {c n m : Nat} {v v' : Value} {xs ys : List Value} (h : PkS W t A c v n xs w) (hr : w'.ownsRow W.heap.size 27 7 v' m ys) (hg : w.grownBy w' v.ownBlock) : PkS W t A c v' m ys w' :=
  ⟨hr, ⟨h.bx.box.kept_by hg (.inr (fun e => own_ne h.row h.bx.box (by decide) _ e rfl)), h.bx.bel.grown hg h.bx.bel.size (fun j e => (h.row.lt j e).1)⟩⟩
def Picked (W : World) (n : Nat) (e : Ending) (w' : World) : Prop := ∃ A c, e = .returned (.tuple #[.slice A n c, .int .i64 0]) ∧ Below W.heap.size W w'
set_option maxHeartbeats 8000000 in
set_option maxRecDepth 100000 in
theorem pick0_c (t : Tr) (A : Option Addr) (c : Nat) (L : List ByteArray) (q d : Nat) (W : World) (hT : TrAt (fun _ => True) W 19 A t) (hL : LvIn W q L) (hTb : Tabs W) (hl : L.length ≤ 1000) (hk0 : checkG t = 0)
    (hv : ∀ v ∈ L, v.size ≤ 1000 ∧ recE (liveR v) = 0) :
    Calls Tryd.prog 13 #[exV t A c, .slice (some ⟨q, 0, none⟩) L.length d] W (Picked W (cntL t L L.length)) := by
  have hd : depD 19 t := hT.depD
  have c1 := fun w (h : TrAt (fun _ => True) w 19 A t) => check_c (fun _ => True) 19 t A c w (by decide) h
  rw [check_same hd hd (by decide), hk0] at c1
  have c2 := fun v (hvm : v ∈ L) w => pchk4_c (liveR v) none 0 w (live_in v (hv v hvm).1 w)
  have c3 := fun v (hvm : v ∈ L) w (h : TrAt (fun _ => True) w 19 A t) (hb : Tabs w) => thru_c (liveR v) none 0 (recSm_of (hv v hvm).2) 6 19 t A c w (checkG_ok hk0) h (live_in v (hv v hvm).1 w) hb
  have c4 := fun v (hvm : v ∈ L) w => copy0_c v (hv v hvm).1 w
  have hrz := fun v (hvm : v ∈ L) => (hv v hvm).2
  have HB := Lib.hid (Boxed.start W t A c)
  have HP0 : Hid (PkS W t A c (.slice none 0 0) 0 [] (W.alloc (.cells (exC t A c) 24))) := Lib.hid ⟨World.ownsRow_nil _ _ _ _, HB.out⟩
  have HT := Lib.hid hT
  have HL := Lib.hid hL
  have HTb := Lib.hid hTb
  have hc : ∀ w, Boxed W t A c w → _ := fun w h => h.cells
  obtain ⟨x0, x1, x2, x3⟩ := HB.out.cells
  obtain ⟨i0, hi, hz0, hz1, hz2⟩ := info_parts recInfo
  clear hT hL hTb hd hk0 HB hv
  simp only [liveV] at c2 c3
  unfold exV exC Picked at *
  go_enter Tryd.func13, Tryd.ntmps13
  go_wp2_with fail
  with_reducible refine (c1 _ (HT.out.below HP0.out.bx.bel)).mono ?_
  rintro en w1 ⟨rfl, hb1⟩
  have HP1 := Lib.hid (HP0.out.later hb1)
  clear hb1 c1 x0 x1 x2 x3 HP0
  go_wp2_with fail
  go_loopw [6, 14] (fun a i wr => ∃ (k n : Nat) (xs : List Value) (B : Option Addr) (e : Nat), i = .int .i64 k ∧ k ≤ L.length ∧ n = cntL t L k ∧ a = .slice B n e ∧ PkS W t A c (.slice B n e) n xs wr) (fun _ i _ => L.length - (intOf i).toNat)
  case atStart => exact ⟨0, 0, [], none, 0, rfl, Nat.zero_le _, rfl, rfl, HP1.out⟩
  case round =>
    obtain ⟨k, n, xs, B, e0, rfl, hkl, hn, rfl, hP⟩ := hrel
    have HN := Lib.hid hn
    clear hn
    have HP2 := Lib.hid hP
    clear hP HP1
    by_cases hk : k < L.length
    · obtain ⟨v, hx⟩ : ∃ v, L[k]? = some v := ⟨_, List.getElem?_eq_getElem hk⟩
      have hvm := List.mem_of_getElem? hx
      obtain ⟨y0, y1, y2, y3, y4, y5, y6⟩ := (HL.out.below HP2.out.bx.bel).2 k v hx
      have d2 := c2 v hvm
      have d3 := c3 v hvm
      have d4 := c4 v hvm
      rw [hrz v hvm] at d2
      have HY := Lib.hid (cntL_yes (t := t) hx)
      have HNo := Lib.hid (cntL_no (t := t) hx)
      clear c2 c3 c4 hrz hx hvm
      have hki : (k : Int) < (L.length : Int) := by omega
      have HV := Lib.hid (HP2.out.later ((Below.refl _ _).alloc (Nat.le_refl _) (.cells (liveC v) 27)))
      have HX := Lib.hid (Box.new wr 27 (liveC v))
      unfold liveC at *
      have hrc : ∀ (w : World), Box w wr.heap.size 27 #[.int .i64 0, .int .i64 0, .bool false, .string ⟨#[]⟩, .bool false, .string v, .slice none 0 0] → (w.cell? ⟨wr.heap.size, 0, none⟩ = some (.int .i64 0) ∧ w.cell? ⟨wr.heap.size, 1, none⟩ = some (.int .i64 0) ∧ w.cell? ⟨wr.heap.size, 2, none⟩ = some (.bool false) ∧ w.cell? ⟨wr.heap.size, 3, none⟩ = some (.string ⟨#[]⟩) ∧ w.cell? ⟨wr.heap.size, 4, none⟩ = some (.bool false) ∧ w.cell? ⟨wr.heap.size, 5, none⟩ = some (.string v) ∧ w.cell? ⟨wr.heap.size, 6, none⟩ = some (.slice none 0 0)) := fun w h => ⟨h.cell 0, h.cell 1, h.cell 2, h.cell 3, h.cell 4, h.cell 5, h.cell 6⟩
      go_wp2_with fail
      with_reducible refine (d2 _).mono ?_
      rintro en w2 ⟨rfl, hb2⟩
      have HP3 := Lib.hid (HV.out.later hb2)
      have HX3 := Lib.hid (HX.out.later hb2)
      clear hb2 d2 HV HX HP2 y0 y1 y2 y3 y4 y5 y6
      obtain ⟨x0, x1, x2, x3⟩ := hc _ HP3.out.bx
      obtain ⟨z0, z1, z2, z3, z4, z5, z6⟩ := hrc _ HX3.out
      go_wp2_with fail
      with_reducible refine (d3 _ (HT.out.below HP3.out.bx.bel) (HTb.out.below HP3.out.bx.bel)).mono ?_
      rintro en w3 ⟨rfl, hb3⟩
      have HP4 := Lib.hid (HP3.out.later hb3)
      have HX4 := Lib.hid (HX3.out.later hb3)
      clear hb3 d3 HP3 HX3 x0 x1 x2 x3 z0 z1 z2 z3 z4 z5 z6
      generalize letsG (liveR v) 6 t = bl at *
      cases bl with
      | false =>
        have hno := HNo.out rfl
        have HNN := Lib.hid hno
        clear hno HNo HY
        go_wp2_with fail
        go_roundw
        case rel => exact ⟨k + 1, n, xs, B, e0, by go_num, hk, by rw [HNN.out]; exact HN.out, rfl, HP4.out⟩
        case measure => simp [intOf]; omega
      | true =>
        have HYY := Lib.hid (HY.out rfl)
        clear HNo HY
        obtain ⟨z0, z1, z2, z3, z4, z5, z6⟩ := hrc _ HX4.out
        go_wp2_with fail
        with_reducible refine (d4 _).mono ?_
        rintro en w4 ⟨rfl, hb4⟩
        have HP5 := Lib.hid (HP4.out.later hb4)
        clear hb4 d4 HP4 HX4 z0 z1 z2 z3 z4 z5 z6
        have hal2 : Below w4.heap.size w4 (w4.alloc (.cells #[.int .i64 0, .int .i64 0, .bool false, .string ⟨#[]⟩, .bool false, .string v, .slice none 0 0] 27)) := (Below.refl _ _).alloc (Nat.le_refl _) _
        have HP6 := Lib.hid (HP5.out.later hal2)
        have hrow := HP6.out.row
        have hnews := news_at (Box.new w4 27 (liveC v))
        have hone := live_one v
        have hsz2 := HP6.out.bx.bel.size
        have hcl : n ≤ L.length := by rw [HN.out]; exact cntL_le t L k
        have HCL := Lib.hid hcl
        unfold liveC at hnews hone
        have HNW := Lib.hid (And.intro hnews hone)
        clear hal2 hnews hone hcl HP5
        go_wp2_with (at_builtin; refine wpList_append_own_at _ rfl _ _ 33 rfl W.heap.size 27 i0 _ 7 88 Tryd.underlying33 hi hz0 hz1 hz2 recC_zero (by decide) (.slice B n e0) n xs rfl hrow ⟨w4.heap.size, 0, none⟩ 1 1 [.int .i64 0, .int .i64 0, .bool false, .string ⟨#[]⟩, .bool false, .string v, .slice none 0 0] rfl rfl HNW.out.1 HNW.out.2 (by have := HCL.out; unfold maxLen; omega) (by have := HCL.out; omega) hsz2 ?_)
        intro v' w5 hown' hgrow _ _
        obtain ⟨g', cap', rfl⟩ := own_slice hown'
        have HP7 := Lib.hid (HP6.out.grow hown' hgrow)
        clear hown' hgrow hrow
        go_wp2
        go_roundw
        case rel => exact ⟨k + 1, n + 1, _, g', cap', by go_num, hk, by rw [HYY.out, HN.out], rfl, HP7.out⟩
        case measure => simp [intOf]; omega
    · have hF : k = L.length := by omega
      subst hF
      have hn := HN.out
      subst hn
      have hb := HP2.out.bx.bel
      clear HP2
      go_wp2_with fail
      go_ret2
      exact ⟨⟨B, e0, rfl⟩, hb⟩
end Go.Proofs.YtmnmgbbdjpfonaaDoor
