/- match: Lets, the document's, by contracts. Condition: the tables of utf8. -/
import Derived.Test.YtmnmgbbdjpfonaaDoorMtMat
import Derived.Test.YtmnmgbbdjpfonaaDoorMtRef
import Derived.Deep.RegionWith
namespace Go.Proofs.YtmnmgbbdjpfonaaDoor
open Go.RowKit
set_option linter.unusedVariables false
/-- What is known of the calls on kids. -/
def DownR (f : Tr → Bool) (r : Rec) (Ar : Option Addr) (cr : Nat) (z : Int) (L : List Tr) : Prop := ∀ x ∈ L, ∀ (d : Nat) (A : Option Addr) (c : Nat) (w : World), TrAt (fun _ => True) w d A x → RIn w r Ar cr → Tabs w → Calls Tryd.prog 24 #[exV x A c, recV r Ar cr, .int .i64 (IntKind.i64.wrap (z - 1))] w (Good w (.bool (f x)))
theorem ls_later {W w w' : World} {k0 : Tr} {c c' b off o cr n : Nat} {A' Ar : Option Addr} {r : Rec} (h : w.cell? ⟨W.heap.size, 3, none⟩ = some (.slice (some ⟨b, off, none⟩) n c) ∧ w.cell? ⟨b, o, none⟩ = some (.int .i64 k0.op) ∧ w.cell? ⟨b, o + 1, none⟩ = some (.string k0.name) ∧ w.cell? ⟨b, o + 2, none⟩ = some (.string k0.value) ∧ w.cell? ⟨b, o + 3, none⟩ = some (.slice A' k0.kids.length c') ∧ w.cell? ⟨W.heap.size + 1, 0, none⟩ = some (.int .i64 r.place) ∧ w.cell? ⟨W.heap.size + 1, 1, none⟩ = some (.int .i64 r.time) ∧ w.cell? ⟨W.heap.size + 1, 2, none⟩ = some (.bool r.bare) ∧ w.cell? ⟨W.heap.size + 1, 3, none⟩ = some (.string r.key) ∧ w.cell? ⟨W.heap.size + 1, 4, none⟩ = some (.bool r.gone) ∧ w.cell? ⟨W.heap.size + 1, 5, none⟩ = some (.string r.value) ∧ w.cell? ⟨W.heap.size + 1, 6, none⟩ = some (.slice Ar r.heads.length cr) ∧ W.heap.size + 1 < w.heap.size ∧ b < w.heap.size) (hb : Below w.heap.size w w') :
    w'.cell? ⟨W.heap.size, 3, none⟩ = some (.slice (some ⟨b, off, none⟩) n c) ∧ w'.cell? ⟨b, o, none⟩ = some (.int .i64 k0.op) ∧ w'.cell? ⟨b, o + 1, none⟩ = some (.string k0.name) ∧ w'.cell? ⟨b, o + 2, none⟩ = some (.string k0.value) ∧ w'.cell? ⟨b, o + 3, none⟩ = some (.slice A' k0.kids.length c') ∧ w'.cell? ⟨W.heap.size + 1, 0, none⟩ = some (.int .i64 r.place) ∧ w'.cell? ⟨W.heap.size + 1, 1, none⟩ = some (.int .i64 r.time) ∧ w'.cell? ⟨W.heap.size + 1, 2, none⟩ = some (.bool r.bare) ∧ w'.cell? ⟨W.heap.size + 1, 3, none⟩ = some (.string r.key) ∧ w'.cell? ⟨W.heap.size + 1, 4, none⟩ = some (.bool r.gone) ∧ w'.cell? ⟨W.heap.size + 1, 5, none⟩ = some (.string r.value) ∧ w'.cell? ⟨W.heap.size + 1, 6, none⟩ = some (.slice Ar r.heads.length cr) ∧ W.heap.size + 1 < w'.heap.size ∧ b < w'.heap.size := by
  obtain ⟨h1, h2, h3, h4, h5, h6, h7, h8, h9, h10, h11, h12, hl1, hl2⟩ := h
  exact ⟨(hb.cell (p := ⟨W.heap.size, 3, none⟩) (by show W.heap.size < _; omega)).trans h1, (hb.cell (p := ⟨b, _, none⟩) hl2).trans h2, (hb.cell (p := ⟨b, _, none⟩) hl2).trans h3, (hb.cell (p := ⟨b, _, none⟩) hl2).trans h4, (hb.cell (p := ⟨b, _, none⟩) hl2).trans h5,
    (hb.cell (p := ⟨W.heap.size + 1, _, none⟩) hl1).trans h6, (hb.cell (p := ⟨W.heap.size + 1, _, none⟩) hl1).trans h7, (hb.cell (p := ⟨W.heap.size + 1, _, none⟩) hl1).trans h8, (hb.cell (p := ⟨W.heap.size + 1, _, none⟩) hl1).trans h9, (hb.cell (p := ⟨W.heap.size + 1, _, none⟩) hl1).trans h10, (hb.cell (p := ⟨W.heap.size + 1, _, none⟩) hl1).trans h11, (hb.cell (p := ⟨W.heap.size + 1, _, none⟩) hl1).trans h12,
    Nat.lt_of_lt_of_le hl1 hb.size, Nat.lt_of_lt_of_le hl2 hb.size⟩
theorem not_true (b : Bool) (h : b ≠ true) : b = false := by cases b <;> simp at h ⊢
theorem any_one {f : Tr → Bool} {L : List Tr} (h : L.length = 1) (hk : 0 < L.length) : anyK f false L = !(f L[0]) := by
  match L, h with
  | [x], _ => unfold anyK; cases hx : f x <;> simp [hx]
theorem mk_op (o : Int) (n v : ByteArray) (k : List Tr) : (Tr.mk o n v k).op = o := rfl
theorem mk_name (o : Int) (n v : ByteArray) (k : List Tr) : (Tr.mk o n v k).name = n := rfl
theorem mk_value (o : Int) (n v : ByteArray) (k : List Tr) : (Tr.mk o n v k).value = v := rfl
theorem mk_kids (o : Int) (n v : ByteArray) (k : List Tr) : (Tr.mk o n v k).kids = k := rfl
theorem not_kid {t : Tr} (h : partB t = true) (h3 : t.op = 3) : ∃ nm vl x, t = Tr.mk 3 nm vl [x] := by
  obtain ⟨op, nm, vl, kids⟩ := t
  have h3' : op = 3 := h3
  subst h3'
  unfold partB at h
  simp [Tr.op, Tr.kids] at h
  match kids, h.1.1 with
  | [x], _ => exact ⟨nm, vl, x, rfl⟩
theorem thru_not (f : Tr → Bool) (r : Rec) (nm vl : ByteArray) (x : Tr) : thruB f r (Tr.mk 3 nm vl [x]) = !(f x) := by
  unfold thruB
  simp [Tr.op, Tr.kids, anyK]
set_option maxHeartbeats 4000000 in
set_option maxRecDepth 100000 in
theorem rlets_not (f : Tr → Bool) (z : Int) (t : Tr) (A : Option Addr) (c : Nat) (r : Rec) (Ar : Option Addr) (cr d : Nat) (W : World) (hz : 1 ≤ z ∧ z ≤ 1000) (hT : TrAt (fun _ => True) W d A t) (hR : RIn W r Ar cr) (hTb : Tabs W) (hP : partB t = true) (g3 : t.op = 3) (ih : DownR f r Ar cr z t.kids) :
    Calls Tryd.prog 24 #[exV t A c, recV r Ar cr, .int .i64 z] W (Good W (.bool (thruB f r t))) := by
  obtain ⟨nm, vl, x, rfl⟩ := not_kid hP g3
  obtain ⟨hz1, hz2⟩ := hz
  have hzz : ¬ z < 1 := by omega
  have HB := Lib.hid (Both.start (c := c) hT hR hTb)
  unfold DownR at ih
  have IH := Lib.hid (ih x (by simp [Tr.kids]))
  have ch := fun w (h : RIn w r Ar cr) => rhead_c r Ar cr nm w h
  obtain ⟨⟨x0, x1, x2, x3⟩, y0, y1, y2, y3, y4, y5, y6⟩ := HB.out.cells
  have hc : ∀ w, Both W W.heap.size (W.heap.size + 1) (Tr.mk 3 nm vl [x]) A c r Ar cr d w → _ := fun w h => h.cells
  have HTR := Lib.hid (fun w (h : Both W W.heap.size (W.heap.size + 1) (Tr.mk 3 nm vl [x]) A c r Ar cr d w) => h.tree.at_ (k := 0) (Nat.zero_lt_one))
  rw [thru_not]
  generalize hhd : headerG r.heads nm = hd at *
  obtain ⟨hd1, hd2⟩ := hd
  clear hhd hT hR hTb hP ih g3
  unfold Sb exV exC recV recC at *
  simp only [mk_op, mk_name, mk_value, mk_kids, List.length_cons, List.length_nil, Nat.zero_add, List.getElem_cons_zero] at *
  generalize f x = v at *
  go_enter Tryd.func24, Tryd.ntmps24
  go_wp2_with fail
  with_reducible refine (ch _ HB.out.rin).mono ?_
  rintro en w1 ⟨rfl, hb1⟩
  have HB1 := Lib.hid (HB.out.later hb1)
  clear hb1 ch x0 x1 x2 x3 y0 y1 y2 y3 y4 y5 y6 HB
  obtain ⟨⟨x0, x1, x2, x3⟩, y0, y1, y2, y3, y4, y5, y6⟩ := hc _ HB1.out
  obtain ⟨b, off, A', c', d', hd', rfl, ho, hlt, m0, m1, m2, m3, hkid⟩ := HTR.out _ HB1.out
  rw [Nat.zero_mul, Nat.add_zero] at m0 m1 m2 m3
  have hkc := fun w (hb : Below w1.heap.size w1 w) => IH.out d' A' c' w (hkid.below hb) (HB1.out.rin.below hb) (HB1.out.tabs.below hb)
  clear hkid
  go_wp2_with fail
  have hS := And.intro x3 (And.intro m0 (And.intro m1 (And.intro m2 (And.intro m3 (And.intro y0 (And.intro y1 (And.intro y2 (And.intro y3 (And.intro y4 (And.intro y5 (And.intro y6 (And.intro HB1.out.br.lt hlt))))))))))))
  go_region_held3 (fun w => w.cell? ⟨W.heap.size, 3, none⟩ = some (.slice (some ⟨b, off, none⟩) 1 c) ∧ w.cell? ⟨b, off, none⟩ = some (.int .i64 x.op) ∧ w.cell? ⟨b, off + 1, none⟩ = some (.string x.name) ∧ w.cell? ⟨b, off + 2, none⟩ = some (.string x.value) ∧ w.cell? ⟨b, off + 3, none⟩ = some (.slice A' x.kids.length c') ∧ w.cell? ⟨W.heap.size + 1, 0, none⟩ = some (.int .i64 r.place) ∧ w.cell? ⟨W.heap.size + 1, 1, none⟩ = some (.int .i64 r.time) ∧ w.cell? ⟨W.heap.size + 1, 2, none⟩ = some (.bool r.bare) ∧ w.cell? ⟨W.heap.size + 1, 3, none⟩ = some (.string r.key) ∧ w.cell? ⟨W.heap.size + 1, 4, none⟩ = some (.bool r.gone) ∧ w.cell? ⟨W.heap.size + 1, 5, none⟩ = some (.string r.value) ∧ w.cell? ⟨W.heap.size + 1, 6, none⟩ = some (.slice Ar r.heads.length cr) ∧ W.heap.size + 1 < w.heap.size ∧ b < w.heap.size)
    (first | exact ls_later (n := 1) hS ((Below.refl _ _).drew) | exact ls_later (by assumption) (by assumption))
    (first | ((with_reducible refine (hkc _ ((Below.refl _ _).drew)).mono ?_); rintro e w2 ⟨rfl, hb2⟩))
  all_goals have HB3 := Lib.hid (HB1.out.later (((Below.refl _ _).drew).trans hb2))
  all_goals clear hb2 m0 m1 m2 m3 x0 x1 x2 x3 y0 y1 y2 y3 y4 y5 y6 HB1 hkc hS
  all_goals go_wp2_with fail
  all_goals go_ret
  all_goals exact ⟨rfl, HB3.out.bel⟩
set_option maxHeartbeats 4000000 in
set_option maxRecDepth 100000 in
theorem rlets_in (f : Tr → Bool) (z : Int) (t : Tr) (A : Option Addr) (c : Nat) (r : Rec) (Ar : Option Addr) (cr d : Nat) (W : World) (hz : 1 ≤ z ∧ z ≤ 1000) (hT : TrAt (fun _ => True) W d A t) (hR : RIn W r Ar cr) (hS : RecSm r) (hTb : Tabs W) (hP : partB t = true) (ih : DownR f r Ar cr z t.kids) :
    Calls Tryd.prog 24 #[exV t A c, recV r Ar cr, .int .i64 z] W (Good W (.bool (thruB f r t))) := by
  by_cases g3 : t.op = 3
  · exact rlets_not f z t A c r Ar cr d W hz hT hR hTb hP g3 ih
  obtain ⟨hz1, hz2⟩ := hz
  have hzz : ¬ z < 1 := by omega
  have HB := Lib.hid (Both.start (c := c) hT hR hTb)
  have IH := Lib.hid ih
  have ch := fun w (h : RIn w r Ar cr) => rhead_c r Ar cr t.name w h
  have cw := fun w (h : Tabs w) => rhas_c r.value.data.toList t.value.data.toList (by have := hS.value; rw [← bs_size, bs_self]; omega) (by have := part_value hP; rw [← bs_size, bs_self]; omega) w h
  obtain ⟨⟨x0, x1, x2, x3⟩, y0, y1, y2, y3, y4, y5, y6⟩ := HB.out.cells
  rw [bs_self, bs_self] at cw
  have hc : ∀ w, Both W W.heap.size (W.heap.size + 1) t A c r Ar cr d w → _ := fun w h => h.cells
  have h1 := hT.node.lo
  have h2 := hT.node.hi
  have hz1 := hS.key
  have hz2 := hS.value
  have hz3 := hT.node.value
  have hz4 := hT.node.name
  have hkl := hT.node.kids
  have HPt := Lib.hid hP
  clear ih hT hR hTb hS hP
  generalize hV : thruB f r t = V
  unfold thruB at hV
  generalize hhd : headerG r.heads t.name = hd at *
  obtain ⟨hd1, hd2⟩ := hd
  clear hhd
  have hho : t.op = 0 ∨ t.op = 1 ∨ t.op = 2 ∨ t.op = 3 ∨ t.op = 4 ∨ t.op = 5 ∨ t.op = 6 ∨ t.op = 7 := by
    have h := HPt.out
    unfold partB at h
    repeat' split at h
    all_goals first | omega | cases h
  clear HPt
  generalize hwv : decide (TK.foldL t.value.data.toList ∈ TK.words r.value.data.toList) = wv at *
  have hwv2 : hasB r.value.data.toList t.value.data.toList = wv := hwv
  rw [hwv2] at hV
  clear hwv hwv2
  unfold DownR Sb exV exC recV recC at *
  generalize t.op = o at *
  rcases hho with g | g | g | g | g | g | g | g
  · subst g
    have HV : Hid (V = (true)) := Lib.hid hV.symm
    clear hV
    go_enter Tryd.func24, Tryd.ntmps24
    go_wp2_with fail
    with_reducible refine (ch _ HB.out.rin).mono ?_
    rintro en w1 ⟨rfl, hb1⟩
    have HB1 := Lib.hid (HB.out.later hb1)
    clear hb1 ch x0 x1 x2 x3 y0 y1 y2 y3 y4 y5 y6 HB
    obtain ⟨⟨x0, x1, x2, x3⟩, y0, y1, y2, y3, y4, y5, y6⟩ := hc _ HB1.out
    go_wp2_with fail
    go_ret
    exact ⟨by rw [HV.out]; rfl, HB1.out.bel⟩
  · subst g
    have HV : Hid (V = (!(anyK f false t.kids))) := Lib.hid hV.symm
    clear hV
    go_enter Tryd.func24, Tryd.ntmps24
    go_wp2_with fail
    with_reducible refine (ch _ HB.out.rin).mono ?_
    rintro en w1 ⟨rfl, hb1⟩
    have HB1 := Lib.hid (HB.out.later hb1)
    clear hb1 ch x0 x1 x2 x3 y0 y1 y2 y3 y4 y5 y6 HB
    obtain ⟨⟨x0, x1, x2, x3⟩, y0, y1, y2, y3, y4, y5, y6⟩ := hc _ HB1.out
    go_wp2_with fail
    go_loopw [9] (fun i wr => ∃ k : Nat, i = .int .i64 k ∧ k ≤ t.kids.length ∧ (∀ x ∈ t.kids.take k, f x ≠ false) ∧ Both W W.heap.size (W.heap.size + 1) t A c r Ar cr d wr) (fun i _ => t.kids.length - (intOf i).toNat)
    case atStart => exact ⟨0, rfl, Nat.zero_le _, by simp, HB1.out⟩
    case round =>
      obtain ⟨k, rfl, hkl, hno, hB⟩ := hrel
      have HN := Lib.hid hno
      have HB2 := Lib.hid hB
      clear hB hno HB1 x0 x1 x2 x3 y0 y1 y2 y3 y4 y5 y6
      obtain ⟨⟨x0, x1, x2, x3⟩, y0, y1, y2, y3, y4, y5, y6⟩ := hc _ HB2.out
      by_cases hk : k < t.kids.length
      · obtain ⟨b, off, A', c', d', hd', rfl, ho, hlt, m0, m1, m2, m3, hkid⟩ := HB2.out.tree.at_ hk
        have hkc := fun w (hb : Below wr.heap.size wr w) => IH.out t.kids[k] (List.getElem_mem hk) d' A' c' w (hkid.below hb) (HB2.out.rin.below hb) (HB2.out.tabs.below hb)
        have HY : Hid (f t.kids[k] = false → anyK f false t.kids = true) := Lib.hid (fun h => anyK_yes hk h)
        have HZ : Hid (f t.kids[k] ≠ false → ∀ x ∈ t.kids.take (k + 1), f x ≠ false) := Lib.hid (fun h => take_ne hk HN.out h)
        clear HN hkid
        generalize f t.kids[k] = v at *
        go_wp2_with fail
        have hS := And.intro x3 (And.intro m0 (And.intro m1 (And.intro m2 (And.intro m3 (And.intro y0 (And.intro y1 (And.intro y2 (And.intro y3 (And.intro y4 (And.intro y5 (And.intro y6 (And.intro HB2.out.br.lt hlt))))))))))))
        go_region_held3 (fun w => w.cell? ⟨W.heap.size, 3, none⟩ = some (.slice (some ⟨b, off, none⟩) t.kids.length c) ∧ w.cell? ⟨b, off + k * 4, none⟩ = some (.int .i64 (t.kids[k]).op) ∧ w.cell? ⟨b, off + k * 4 + 1, none⟩ = some (.string (t.kids[k]).name) ∧ w.cell? ⟨b, off + k * 4 + 2, none⟩ = some (.string (t.kids[k]).value) ∧ w.cell? ⟨b, off + k * 4 + 3, none⟩ = some (.slice A' (t.kids[k]).kids.length c') ∧ w.cell? ⟨W.heap.size + 1, 0, none⟩ = some (.int .i64 r.place) ∧ w.cell? ⟨W.heap.size + 1, 1, none⟩ = some (.int .i64 r.time) ∧ w.cell? ⟨W.heap.size + 1, 2, none⟩ = some (.bool r.bare) ∧ w.cell? ⟨W.heap.size + 1, 3, none⟩ = some (.string r.key) ∧ w.cell? ⟨W.heap.size + 1, 4, none⟩ = some (.bool r.gone) ∧ w.cell? ⟨W.heap.size + 1, 5, none⟩ = some (.string r.value) ∧ w.cell? ⟨W.heap.size + 1, 6, none⟩ = some (.slice Ar r.heads.length cr) ∧ W.heap.size + 1 < w.heap.size ∧ b < w.heap.size)
          (first | exact ls_later hS ((Below.refl _ _).drew) | exact ls_later (by assumption) (by assumption))
          (first | ((with_reducible refine (hkc _ ((Below.refl _ _).drew)).mono ?_); rintro e w2 ⟨rfl, hb2⟩))
        all_goals have HB3 := Lib.hid (HB2.out.later (((Below.refl _ _).drew).trans hb2))
        all_goals clear hb2 m0 m1 m2 m3 x0 x1 x2 x3 y0 y1 y2 y3 y4 y5 y6 HB2 hkc hS
        all_goals
          cases v with
          | true =>
            go_wp2_with fail
            go_roundw
            case rel => exact ⟨k + 1, rfl, hk, HZ.out (by decide), HB3.out⟩
            case measure => simp [intOf]; omega
          | false =>
            have hy := HY.out rfl
            have hb := HB3.out.bel
            clear HB3 HY HZ
            go_wp2_with fail
            go_ret
            exact ⟨by rw [HV.out, hy]; rfl, hb⟩
      · have hn := anyK_no hk HN.out
        have hb := HB2.out.bel
        clear HB2
        go_wp2_with fail
        go_ret
        exact ⟨by rw [HV.out, hn]; rfl, hb⟩
  · subst g
    have HV : Hid (V = (anyK f true t.kids)) := Lib.hid hV.symm
    clear hV
    go_enter Tryd.func24, Tryd.ntmps24
    go_wp2_with fail
    with_reducible refine (ch _ HB.out.rin).mono ?_
    rintro en w1 ⟨rfl, hb1⟩
    have HB1 := Lib.hid (HB.out.later hb1)
    clear hb1 ch x0 x1 x2 x3 y0 y1 y2 y3 y4 y5 y6 HB
    obtain ⟨⟨x0, x1, x2, x3⟩, y0, y1, y2, y3, y4, y5, y6⟩ := hc _ HB1.out
    go_wp2_with fail
    go_loopw [10] (fun i wr => ∃ k : Nat, i = .int .i64 k ∧ k ≤ t.kids.length ∧ (∀ x ∈ t.kids.take k, f x ≠ true) ∧ Both W W.heap.size (W.heap.size + 1) t A c r Ar cr d wr) (fun i _ => t.kids.length - (intOf i).toNat)
    case atStart => exact ⟨0, rfl, Nat.zero_le _, by simp, HB1.out⟩
    case round =>
      obtain ⟨k, rfl, hkl, hno, hB⟩ := hrel
      have HN := Lib.hid hno
      have HB2 := Lib.hid hB
      clear hB hno HB1 x0 x1 x2 x3 y0 y1 y2 y3 y4 y5 y6
      obtain ⟨⟨x0, x1, x2, x3⟩, y0, y1, y2, y3, y4, y5, y6⟩ := hc _ HB2.out
      by_cases hk : k < t.kids.length
      · obtain ⟨b, off, A', c', d', hd', rfl, ho, hlt, m0, m1, m2, m3, hkid⟩ := HB2.out.tree.at_ hk
        have hkc := fun w (hb : Below wr.heap.size wr w) => IH.out t.kids[k] (List.getElem_mem hk) d' A' c' w (hkid.below hb) (HB2.out.rin.below hb) (HB2.out.tabs.below hb)
        have HY : Hid (f t.kids[k] = true → anyK f true t.kids = true) := Lib.hid (fun h => anyK_yes hk h)
        have HZ : Hid (f t.kids[k] ≠ true → ∀ x ∈ t.kids.take (k + 1), f x ≠ true) := Lib.hid (fun h => take_ne hk HN.out h)
        clear HN hkid
        generalize f t.kids[k] = v at *
        go_wp2_with fail
        have hS := And.intro x3 (And.intro m0 (And.intro m1 (And.intro m2 (And.intro m3 (And.intro y0 (And.intro y1 (And.intro y2 (And.intro y3 (And.intro y4 (And.intro y5 (And.intro y6 (And.intro HB2.out.br.lt hlt))))))))))))
        go_region_held3 (fun w => w.cell? ⟨W.heap.size, 3, none⟩ = some (.slice (some ⟨b, off, none⟩) t.kids.length c) ∧ w.cell? ⟨b, off + k * 4, none⟩ = some (.int .i64 (t.kids[k]).op) ∧ w.cell? ⟨b, off + k * 4 + 1, none⟩ = some (.string (t.kids[k]).name) ∧ w.cell? ⟨b, off + k * 4 + 2, none⟩ = some (.string (t.kids[k]).value) ∧ w.cell? ⟨b, off + k * 4 + 3, none⟩ = some (.slice A' (t.kids[k]).kids.length c') ∧ w.cell? ⟨W.heap.size + 1, 0, none⟩ = some (.int .i64 r.place) ∧ w.cell? ⟨W.heap.size + 1, 1, none⟩ = some (.int .i64 r.time) ∧ w.cell? ⟨W.heap.size + 1, 2, none⟩ = some (.bool r.bare) ∧ w.cell? ⟨W.heap.size + 1, 3, none⟩ = some (.string r.key) ∧ w.cell? ⟨W.heap.size + 1, 4, none⟩ = some (.bool r.gone) ∧ w.cell? ⟨W.heap.size + 1, 5, none⟩ = some (.string r.value) ∧ w.cell? ⟨W.heap.size + 1, 6, none⟩ = some (.slice Ar r.heads.length cr) ∧ W.heap.size + 1 < w.heap.size ∧ b < w.heap.size)
          (first | exact ls_later hS ((Below.refl _ _).drew) | exact ls_later (by assumption) (by assumption))
          (first | ((with_reducible refine (hkc _ ((Below.refl _ _).drew)).mono ?_); rintro e w2 ⟨rfl, hb2⟩))
        all_goals have HB3 := Lib.hid (HB2.out.later (((Below.refl _ _).drew).trans hb2))
        all_goals clear hb2 m0 m1 m2 m3 x0 x1 x2 x3 y0 y1 y2 y3 y4 y5 y6 HB2 hkc hS
        all_goals
          cases v with
          | true =>
            have hy := HY.out rfl
            have hb := HB3.out.bel
            clear HB3 HY HZ
            go_wp2_with fail
            go_ret
            exact ⟨by rw [HV.out, hy]; rfl, hb⟩
          | false =>
            go_wp2_with fail
            go_roundw
            case rel => exact ⟨k + 1, rfl, hk, HZ.out (by decide), HB3.out⟩
            case measure => simp [intOf]; omega
      · have hn := anyK_no hk HN.out
        have hb := HB2.out.bel
        clear HB2
        go_wp2_with fail
        go_ret
        exact ⟨by rw [HV.out, hn]; rfl, hb⟩
  · exact absurd g g3
  · subst g
    have HV : Hid (V = (hd2)) := Lib.hid hV.symm
    clear hV
    go_enter Tryd.func24, Tryd.ntmps24
    go_wp2_with fail
    with_reducible refine (ch _ HB.out.rin).mono ?_
    rintro en w1 ⟨rfl, hb1⟩
    have HB1 := Lib.hid (HB.out.later hb1)
    clear hb1 ch x0 x1 x2 x3 y0 y1 y2 y3 y4 y5 y6 HB
    obtain ⟨⟨x0, x1, x2, x3⟩, y0, y1, y2, y3, y4, y5, y6⟩ := hc _ HB1.out
    go_wp2_with fail
    go_ret
    exact ⟨by rw [HV.out]; rfl, HB1.out.bel⟩
  · subst g
    have HV : Hid (V = (hd2 && decide (hd1 = t.value))) := Lib.hid hV.symm
    clear hV
    go_enter Tryd.func24, Tryd.ntmps24
    go_wp2_with fail
    with_reducible refine (ch _ HB.out.rin).mono ?_
    rintro en w1 ⟨rfl, hb1⟩
    have HB1 := Lib.hid (HB.out.later hb1)
    clear hb1 ch x0 x1 x2 x3 y0 y1 y2 y3 y4 y5 y6 HB
    obtain ⟨⟨x0, x1, x2, x3⟩, y0, y1, y2, y3, y4, y5, y6⟩ := hc _ HB1.out
    cases hd2
    all_goals go_wp2_with fail
    all_goals go_ret
    all_goals exact ⟨by rw [HV.out]; simp [str_same], HB1.out.bel⟩
  · subst g
    have HV : Hid (V = (!r.bare && preB r.key t.value)) := Lib.hid hV.symm
    clear hV
    go_enter Tryd.func24, Tryd.ntmps24
    go_wp2_with fail
    with_reducible refine (ch _ HB.out.rin).mono ?_
    rintro en w1 ⟨rfl, hb1⟩
    have HB1 := Lib.hid (HB.out.later hb1)
    clear hb1 ch x0 x1 x2 x3 y0 y1 y2 y3 y4 y5 y6 HB
    obtain ⟨⟨x0, x1, x2, x3⟩, y0, y1, y2, y3, y4, y5, y6⟩ := hc _ HB1.out
    generalize r.bare = bb at *
    cases bb with
    | true =>
      go_wp2_with fail
      go_quiet (fail)
      go_wp2_with fail
      go_ret
      exact ⟨by rw [HV.out]; rfl, HB1.out.bel.trans ⟨rfl, rfl, rfl, Nat.le_refl _, fun _ _ => rfl⟩⟩
    | false =>
      by_cases hle : (t.value.size : Int) ≤ (r.key.size : Int)
      · go_wp2_with fail
        have hd : decide ((t.value.size : Int) ≤ (r.key.size : Int)) = true := decide_eq_true hle
        go_quiet (fail)
        go_wp2_with fail
        go_ret
        refine ⟨congrArg (fun b => Ending.returned (.bool b)) (?_ : _ = V), HB1.out.bel.trans ⟨rfl, rfl, rfl, Nat.le_refl _, fun _ _ => rfl⟩⟩
        rw [HV.out]
        unfold preB
        rw [decide_eq_true (p := t.value.size ≤ r.key.size) (by omega)]
        simp [str_same]
      · go_wp2_with fail
        have hd : decide (t.value.size ≤ r.key.size) = false := decide_eq_false (by omega)
        have hd2 : ¬ t.value.size ≤ r.key.size := by omega
        have hd3 : r.key.size < t.value.size := by omega
        have hd4 : decide ((t.value.size : Int) ≤ (r.key.size : Int)) = false := decide_eq_false (by omega)
        go_quiet (fail)
        go_wp2_with fail
        go_ret
        refine ⟨congrArg (fun b => Ending.returned (.bool b)) (?_ : _ = V), HB1.out.bel.trans ⟨rfl, rfl, rfl, Nat.le_refl _, fun _ _ => rfl⟩⟩
        rw [HV.out]
        unfold preB
        rw [hd]
        rfl
  · subst g
    have HV : Hid (V = (!r.gone && wv)) := Lib.hid hV.symm
    clear hV
    go_enter Tryd.func24, Tryd.ntmps24
    go_wp2_with fail
    with_reducible refine (ch _ HB.out.rin).mono ?_
    rintro en w1 ⟨rfl, hb1⟩
    have HB1 := Lib.hid (HB.out.later hb1)
    clear hb1 ch x0 x1 x2 x3 y0 y1 y2 y3 y4 y5 y6 HB
    obtain ⟨⟨x0, x1, x2, x3⟩, y0, y1, y2, y3, y4, y5, y6⟩ := hc _ HB1.out
    generalize r.gone = bb at *
    cases bb with
    | true =>
      go_wp2_with fail
      go_ret
      exact ⟨by rw [HV.out]; rfl, HB1.out.bel⟩
    | false =>
      go_wp2_with fail
      with_reducible refine (cw _ HB1.out.tabs).mono ?_
      rintro en w2 ⟨rfl, hb2⟩
      have HB2 := Lib.hid (HB1.out.later hb2)
      clear hb2 HB1
      go_wp2_with fail
      go_ret
      exact ⟨by rw [HV.out]; rfl, HB2.out.bel⟩
end Go.Proofs.YtmnmgbbdjpfonaaDoor
