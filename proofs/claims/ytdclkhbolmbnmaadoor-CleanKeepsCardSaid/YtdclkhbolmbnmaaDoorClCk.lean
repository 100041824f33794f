/- Merged texts. What each proves is told at its head. -/
import Derived.Test.YtdclkhbolmbnmaaDoorBatNum
import Derived.Test.YtdclkhbolmbnmaaDoorRecMay
import Derived.Test.YtdclkhbolmbnmaaDoorBld
import Derived.Test.YtdclkhbolmbnmaaDoorPTake
import Derived.Test.YtdclkhbolmbnmaaDoorRecRef
import Derived.Test.YtdclkhbolmbnmaaDoorRTake
import Derived.Deep.RegionHeld3
import Derived.Deep.DeepCutAuto
import Derived.Test.YtdclkhbolmbnmaaDoorBatRec
/- The document's who: whether a producer's numbers may be. No condition. -/
namespace Go.Proofs.YtdclkhbolmbnmaaDoor
open Go.RowKit
set_option linter.unusedVariables false
def whoB (b : BN) : Bool := noneB b || someB b
theorem whoB_none (base span epoch seq : Int) : whoB ⟨base, span, -1, epoch, seq⟩ = (decide (epoch = -1) && decide (seq = -1)) := by
  unfold whoB noneB someB wi
  simp
theorem whoB_some (base span prod epoch seq : Int) (h : prod ≠ -1) : whoB ⟨base, span, prod, epoch, seq⟩ = (decide (0 ≤ prod) && decide (prod ≤ 1073741824) && decide (0 ≤ epoch) && decide (epoch ≤ 32768) && decide (0 ≤ seq) && decide (seq ≤ 1073741824)) := by
  unfold whoB noneB someB wi
  simp [h, Bool.and_assoc]
set_option maxHeartbeats 8000000 in
set_option maxRecDepth 100000 in
theorem who_c (b : BN) (v : Value) (W : World) : Calls Tryd.prog 35 #[.agg (bnC b v)] W (fun e w' => e = .returned (.bool (whoB b)) ∧ Below W.heap.size W w') := by
  obtain ⟨base, span, prod, epoch, seq⟩ := b
  have hb0 : Below W.heap.size W (W.alloc (.cells #[.int .i64 base, .int .i64 span, .int .i64 prod, .int .i64 epoch, .int .i64 seq, v] 29)) := (Below.refl _ W).alloc (Nat.le_refl _) _
  have hbx := Box.new W 29 #[.int .i64 base, .int .i64 span, .int .i64 prod, .int .i64 epoch, .int .i64 seq, v]
  have y2 := (hbx.cell 2).trans rfl
  have y3 := (hbx.cell 3).trans rfl
  have y4 := (hbx.cell 4).trans rfl
  simp only [List.getElem?_toArray, List.getElem?_cons_zero, List.getElem?_cons_succ] at y2 y3 y4
  have HB := Lib.hid hb0
  clear hbx hb0
  unfold bnC
  simp only
  obtain ⟨res, hres⟩ : ∃ res, whoB ⟨base, span, prod, epoch, seq⟩ = res := ⟨_, rfl⟩
  rw [hres]
  by_cases hp : prod = -1
  · subst hp
    rw [whoB_none] at hres
    by_cases he : epoch = -1
    · subst he
      go_enter Tryd.func35, Tryd.ntmps35
      go_wp2
      go_ret
      refine ⟨?_, HB.out⟩
      rw [← hres]
      rfl
    · have he' : (epoch == -1) = false := by rw [beq_eq_false_iff_ne]; exact he
      go_enter Tryd.func35, Tryd.ntmps35
      go_wp2
      go_ret
      refine ⟨?_, HB.out⟩
      rw [← hres]
      simp [he]
  · have hp' : (prod == -1) = false := by rw [beq_eq_false_iff_ne]; exact hp
    rw [whoB_some _ _ _ _ _ hp] at hres
    by_cases h1 : 0 ≤ prod
    · by_cases h2 : prod ≤ 1073741824
      · by_cases h3 : 0 ≤ epoch
        · by_cases h4 : epoch ≤ 32768
          · by_cases h5 : 0 ≤ seq
            · go_enter Tryd.func35, Tryd.ntmps35
              go_wp2
              go_ret
              refine ⟨?_, HB.out⟩
              rw [← hres]
              simp
              try omega
            · go_enter Tryd.func35, Tryd.ntmps35
              go_wp2
              go_ret
              refine ⟨?_, HB.out⟩
              rw [← hres]
              simp
              try omega
          · go_enter Tryd.func35, Tryd.ntmps35
            go_wp2
            go_ret
            refine ⟨?_, HB.out⟩
            rw [← hres]
            simp
            try omega
        · go_enter Tryd.func35, Tryd.ntmps35
          go_wp2
          go_ret
          refine ⟨?_, HB.out⟩
          rw [← hres]
          simp
          try omega
      · go_enter Tryd.func35, Tryd.ntmps35
        go_wp2
        go_ret
        refine ⟨?_, HB.out⟩
        rw [← hres]
        simp
        try omega
    · go_enter Tryd.func35, Tryd.ntmps35
      go_wp2
      go_ret
      refine ⟨?_, HB.out⟩
      rw [← hres]
      simp
      try omega
end Go.Proofs.YtdclkhbolmbnmaaDoor
/- The program's Encode of a record by a contract. -/
namespace Go.Proofs.YtdclkhbolmbnmaaDoor
open Go.RowKit
set_option linter.unusedVariables false
theorem textG_list (t : ByteArray) : (textG t).data.toList = txt t := by simp [textG, txt]
theorem textG_size (t : ByteArray) : (textG t).size = (txt t).length := by rw [← textG_list]; rfl
theorem txt_le (t : ByteArray) : (txt t).length ≤ 10 + t.size := by rw [txt_len]; have := putL_len t.size; omega
theorem headsL_le : ∀ (hs : List Hd), hs.all okHead = true → (headsL hs).length ≤ hs.length * 2020
  | [], _ => by simp [headsL]
  | h :: hs, ha => by
    simp only [List.all_cons, Bool.and_eq_true] at ha
    have hk := ha.1
    simp only [okHead, decide_eq_true_eq] at hk
    have h1 := txt_le h.1
    have h2 := txt_le h.2
    have h3 := headsL_le hs ha.2
    rw [headsL_cons]
    simp only [List.length_append, List.length_cons]
    omega
theorem headsL_take_succ {hs : List Hd} {k : Nat} (hk : k < hs.length) : headsL (hs.take (k + 1)) = headsL (hs.take k) ++ (txt hs[k].1 ++ txt hs[k].2) := by
  rw [List.take_succ_eq_append_getElem hk, headsL_snoc]
/-- A builder, and what stands beside it. -/
structure EncAt (W : World) (cs : Array Value) (B b : Nat) (l : List UInt8) (w : World) : Prop where
  bld : Bld w B b l
  box : Box w W.heap.size 39 cs
  bel : Below W.heap.size W w
  lo : W.heap.size < B
  le : B ≤ w.heap.size
theorem BuilderAt.later {T e : TypeId} {B b : Nat} {p : Value} {bs : List Value} {w w' : World} (h : Lib.BuilderAt T e B b p bs w) (hb : Below w.heap.size w w') : Lib.BuilderAt T e B b p bs w' := by
  have hlt := h.lt
  obtain ⟨hB, v, hbk, hown, hne⟩ := h
  refine ⟨hB, v, (hb.block b hlt).trans hbk, ?_, hne⟩
  refine hown.kept (row := none) ⟨hb.os, hb.tape, hb.output, hb.size, fun k hk _ => hb.block k hk⟩ ?_
  cases v.ownBlock with
  | none => exact .inl rfl
  | some g => exact .inr (by simp)
theorem Bld.later {w w' : World} {B b : Nat} {l : List UInt8} (h : Bld w B b l) (hb : Below w.heap.size w w') : Bld w' B b l := by
  rcases h with h | h
  · exact .inl (BuilderAt.later h hb)
  · exact .inr (BuilderAt.later h hb)
theorem EncAt.later {W w w' : World} {cs : Array Value} {B b : Nat} {l : List UInt8} (h : EncAt W cs B b l w) (hb : Below w.heap.size w w') : EncAt W cs B b l w' :=
  ⟨h.bld.later hb, h.box.later hb, h.bel.trans (hb.mono h.bel.size), h.lo, Nat.le_trans h.le hb.size⟩
theorem Bld.lt {w : World} {B b : Nat} {l : List UInt8} (h : Bld w B b l) : b < w.heap.size := by
  rcases h with h | h
  · exact h.lt
  · exact h.lt
theorem EncAt.start {W w : World} {cs : Array Value} (hbox : Box w W.heap.size 39 cs) (hbel : Below W.heap.size W w) : EncAt W cs w.heap.size w.heap.size [] (w.alloc (.cells #[.pointer none, .slice none 0 0] 125)) :=
  ⟨Bld.fresh w, hbox.alloc _, hbel.alloc hbel.size _, hbox.lt, by simp⟩
theorem EncAt.wrote {W w w' : World} {cs : Array Value} {B b : Nat} {l m : List UInt8} (h : EncAt W cs B b l w) (hb : Bld w' B b m) (hl : Below B w w') : EncAt W cs B b m w' :=
  ⟨hb, h.box.below hl h.lo, h.bel.trans (hl.mono (Nat.le_of_lt h.lo)), h.lo, Nat.le_trans h.le hl.size⟩
theorem mk_size (l : List UInt8) : (⟨l.toArray⟩ : ByteArray).size = l.length := rfl
theorem recC_at {r : Rec} {A : Option Addr} {c : Nat} {w : World} {b : Nat} (h : Box w b 39 (recC r A c)) : w.cell? ⟨b, 0, none⟩ = some (.int .i64 r.place) ∧ w.cell? ⟨b, 1, none⟩ = some (.int .i64 r.time) ∧ w.cell? ⟨b, 2, none⟩ = some (.bool r.bare) ∧ w.cell? ⟨b, 3, none⟩ = some (.string r.key) ∧
    w.cell? ⟨b, 4, none⟩ = some (.bool r.gone) ∧ w.cell? ⟨b, 5, none⟩ = some (.string r.value) ∧ w.cell? ⟨b, 6, none⟩ = some (.slice A r.heads.length c) :=
  ⟨by rw [h.cell]; rfl, by rw [h.cell]; rfl, by rw [h.cell]; rfl, by rw [h.cell]; rfl, by rw [h.cell]; rfl, by rw [h.cell]; rfl, by rw [h.cell]; rfl⟩
set_option maxHeartbeats 4000000 in
set_option maxRecDepth 100000 in
theorem enc_bad (r : Rec) (A : Option Addr) (c : Nat) (W : World) (hR : RIn W r A c) (h : okRec r = false) :
    Calls Tryd.prog 73 #[recV r A c] W (Good W (.tuple #[.string ⟨#[]⟩, .int .i64 1])) := by
  have hc := check_c r A c (W.alloc (.cells (recC r A c) 39)) (hR.below ((Below.refl _ _).alloc (Nat.le_refl _) _))
  rw [show recE r = 1 by unfold recE; rw [h]; rfl] at hc
  clear h hR
  unfold recV recC at *
  go_enter Tryd.func73, Tryd.ntmps73
  go_wp2_with ((with_reducible refine hc.mono ?_); rintro e w1 ⟨rfl, hb1⟩)
  go_ret2
  exact ⟨rfl, ((Below.refl _ _).alloc (Nat.le_refl _) _).trans (hb1.mono (by simp))⟩
set_option maxHeartbeats 4000000 in
set_option maxRecDepth 100000 in
theorem enc_good (r : Rec) (A : Option Addr) (c : Nat) (W : World) (hR : RIn W r A c) (h : okRec r = true) :
    Calls Tryd.prog 73 #[recV r A c] W (Good W (.tuple #[.string (encR r), .int .i64 0])) := by
  have hc := check_c r A c (W.alloc (.cells (recC r A c) 39)) (hR.below ((Below.refl _ _).alloc (Nat.le_refl _) _))
  rw [show recE r = 0 by unfold recE; rw [h]; rfl] at hc
  obtain ⟨⟨p0, p1, t0, t1⟩, ⟨k1, v1⟩, m1, ha⟩ := okRec_parts h
  have hm := fun w => marks_c r A c w
  have c1 := fun w => put_c r.place w (by omega) (by omega)
  have c2 := fun w => put_c r.time w (by omega) (by omega)
  have c3 := fun w => put_c (marks r.bare r.gone) w (by have := marks_cases r.bare r.gone; omega) (by have := marks_cases r.bare r.gone; omega)
  have c4 := fun w => text_c r.key w (by omega)
  have c5 := fun w => text_c r.value w (by omega)
  have c6 := fun w => put_c (r.heads.length : Int) w (by omega) (by omega)
  have HH := Lib.hid hR.heads
  have HE : Hid (encR r = ⟨(encL r).toArray⟩) := Lib.hid rfl
  have HA := Lib.hid ha
  clear h hR ha
  generalize encR r = res at *
  have HL : Hid (encL r = putL r.place ++ (putL r.time ++ (putL (marks r.bare r.gone) ++ (txt r.key ++ (txt r.value ++ (putL r.heads.length ++ headsL r.heads)))))) := Lib.hid rfl
  generalize encL r = L at *
  obtain ⟨place, time, bare, key, gone, value, heads⟩ := r
  simp only at *
  have q1 := putL_len place
  have q2 := putL_len time
  have q3 := putL_len (marks bare gone)
  have q4 := txt_le key
  have q5 := txt_le value
  have q6 := putL_len (heads.length : Int)
  have s4 := textG_list key
  have s5 := textG_list value
  have z4 := textG_size key
  have z5 := textG_size value
  have S4 := Lib.hid s4
  have S5 := Lib.hid s5
  have Z4 := Lib.hid z4
  have Z5 := Lib.hid z5
  clear s4 s5 z4 z5
  generalize textG key = gk at *
  generalize textG value = gv at *
  generalize txt key = lk at *
  generalize txt value = lv at *
  generalize marks bare gone = mk at *
  generalize putL place = l1 at *
  generalize putL time = l2 at *
  generalize putL mk = l3 at *
  generalize putL (heads.length : Int) = l6 at *
  unfold recV recC at *
  simp only at *
  go_enter Tryd.func73, Tryd.ntmps73
  go_wp2_with fail
  (with_reducible refine hc.mono ?_)
  rintro e w1 ⟨rfl, hb1⟩
  have HB1 : Hid (Box w1 W.heap.size 39 #[.int .i64 place, .int .i64 time, .bool bare, .string key, .bool gone, .string value, .slice A heads.length c]) := Lib.hid ((Box.new W _ _).later hb1)
  have HS := Lib.hid (EncAt.start HB1.out (((Below.refl _ _).alloc (Nat.le_refl _) _).trans (hb1.mono (by simp))))
  clear hb1 HB1 hc
  have cells := fun w (h : Box w W.heap.size 39 #[.int .i64 place, .int .i64 time, .bool bare, .string key, .bool gone, .string value, .slice A heads.length c]) => recC_at (r := ⟨place, time, bare, key, gone, value, heads⟩) (A := A) (c := c) (w := w) (b := W.heap.size) h
  simp only at cells
  have CE := Lib.hid cells
  clear cells
  obtain ⟨x0, x1, x2, x3, x4, x5, x6⟩ := CE.out _ HS.out.box
  go_wp2_with fail
  (with_reducible refine (c1 _).mono ?_)
  rintro e w2 ⟨rfl, hb⟩
  have Hw2 := Lib.hid (HS.out.later hb)
  clear hb HS x0 x1 x2 x3 x4 x5 x6
  go_wp2_with fail
  (with_reducible refine (bwrite_c _ _ _ _ _ Hw2.out.bld (by simp only [List.length_nil, mk_size]; omega) Hw2.out.le).mono ?_)
  rintro e w3 ⟨rfl, hx1, hx2, hx3⟩
  have Hw3 := Lib.hid (Hw2.out.wrote (m := l1) (by simpa using hx1) hx2)
  clear hx1 hx2 hx3 Hw2
  obtain ⟨x0, x1, x2, x3, x4, x5, x6⟩ := CE.out _ Hw3.out.box
  go_wp2_with fail
  (with_reducible refine (c2 _).mono ?_)
  rintro e w4 ⟨rfl, hb⟩
  have Hw4 := Lib.hid (Hw3.out.later hb)
  clear hb Hw3 x0 x1 x2 x3 x4 x5 x6
  go_wp2_with fail
  (with_reducible refine (bwrite_c _ _ _ _ _ Hw4.out.bld (by simp only [mk_size]; omega) Hw4.out.le).mono ?_)
  rintro e w5 ⟨rfl, hx1, hx2, hx3⟩
  have Hw5 := Lib.hid (Hw4.out.wrote (m := (l1 ++ l2)) (by simpa using hx1) hx2)
  clear hx1 hx2 hx3 Hw4
  obtain ⟨x0, x1, x2, x3, x4, x5, x6⟩ := CE.out _ Hw5.out.box
  go_wp2_with fail
  (with_reducible refine (hm _).mono ?_)
  rintro e wm ⟨rfl, hbm⟩
  have HSm := Lib.hid (Hw5.out.later hbm)
  clear hbm Hw5
  go_wp2_with fail
  (with_reducible refine (c3 _).mono ?_)
  rintro e w6 ⟨rfl, hb⟩
  have Hw6 := Lib.hid (HSm.out.later hb)
  clear hb HSm x0 x1 x2 x3 x4 x5 x6
  go_wp2_with fail
  (with_reducible refine (bwrite_c _ _ _ _ _ Hw6.out.bld (by simp only [List.length_append, mk_size]; omega) Hw6.out.le).mono ?_)
  rintro e w7 ⟨rfl, hx1, hx2, hx3⟩
  have Hw7 := Lib.hid (Hw6.out.wrote (m := (l1 ++ l2 ++ l3)) (by simpa using hx1) hx2)
  clear hx1 hx2 hx3 Hw6
  obtain ⟨x0, x1, x2, x3, x4, x5, x6⟩ := CE.out _ Hw7.out.box
  go_wp2_with fail
  (with_reducible refine (c4 _).mono ?_)
  rintro e w8 ⟨rfl, hb⟩
  have Hw8 := Lib.hid (Hw7.out.later hb)
  clear hb Hw7 x0 x1 x2 x3 x4 x5 x6
  go_wp2_with fail
  (with_reducible refine (bwrite_c _ _ _ _ _ Hw8.out.bld (by have hz := Z4.out; simp only [List.length_append]; omega) Hw8.out.le).mono ?_)
  rintro e w9 ⟨rfl, hx1, hx2, hx3⟩
  have Hw9 := Lib.hid (Hw8.out.wrote (m := (l1 ++ l2 ++ l3 ++ lk)) (by rw [S4.out] at hx1; exact hx1) hx2)
  clear hx1 hx2 hx3 Hw8
  obtain ⟨x0, x1, x2, x3, x4, x5, x6⟩ := CE.out _ Hw9.out.box
  go_wp2_with fail
  (with_reducible refine (c5 _).mono ?_)
  rintro e w10 ⟨rfl, hb⟩
  have Hw10 := Lib.hid (Hw9.out.later hb)
  clear hb Hw9 x0 x1 x2 x3 x4 x5 x6
  go_wp2_with fail
  (with_reducible refine (bwrite_c _ _ _ _ _ Hw10.out.bld (by have hz := Z5.out; simp only [List.length_append]; omega) Hw10.out.le).mono ?_)
  rintro e w11 ⟨rfl, hx1, hx2, hx3⟩
  have Hw11 := Lib.hid (Hw10.out.wrote (m := (l1 ++ l2 ++ l3 ++ lk ++ lv)) (by rw [S5.out] at hx1; exact hx1) hx2)
  clear hx1 hx2 hx3 Hw10
  obtain ⟨x0, x1, x2, x3, x4, x5, x6⟩ := CE.out _ Hw11.out.box
  go_wp2_with fail
  (with_reducible refine (c6 _).mono ?_)
  rintro e w12 ⟨rfl, hb⟩
  have Hw12 := Lib.hid (Hw11.out.later hb)
  clear hb Hw11 x0 x1 x2 x3 x4 x5 x6
  go_wp2_with fail
  (with_reducible refine (bwrite_c _ _ _ _ _ Hw12.out.bld (by simp only [List.length_append, mk_size]; omega) Hw12.out.le).mono ?_)
  rintro e w13 ⟨rfl, hx1, hx2, hx3⟩
  have Hw13 := Lib.hid (Hw12.out.wrote (m := (l1 ++ l2 ++ l3 ++ lk ++ lv ++ l6)) (by simpa using hx1) hx2)
  clear hx1 hx2 hx3 Hw12
  obtain ⟨x0, x1, x2, x3, x4, x5, x6⟩ := CE.out _ Hw13.out.box
  go_wp2_with fail
  obtain ⟨P, hP⟩ : ∃ P, P = l1 ++ l2 ++ l3 ++ lk ++ lv ++ l6 := ⟨_, rfl⟩
  have hPl : P.length ≤ 3000 := by rw [hP]; simp only [List.length_append]; omega
  have HP : Hid (L = P ++ headsL heads) := Lib.hid (by rw [HL.out, hP]; simp)
  have HST := Hw13.out
  rw [← hP] at HST
  have HS := Lib.hid HST
  clear HST hP HL Hw13 x0 x1 x2 x3 x4 x5 x6 CE c1 c2 c3 c4 c5 c6 hm
  go_loopw [7, 41] (fun x i wr => ∃ k : Nat, i = .int .i64 k ∧ k ≤ heads.length ∧ EncAt W #[.int .i64 place, .int .i64 time, .bool bare, .string key, .bool gone, .string value, .slice A heads.length c] w1.heap.size w1.heap.size (P ++ headsL (heads.take k)) wr) (fun _ i _ => heads.length - (intOf i).toNat)
  case atStart => exact ⟨0, rfl, Nat.zero_le _, by simpa [headsL] using HS.out⟩
  case round =>
    obtain ⟨k, rfl, hkl, hR⟩ := hrel
    by_cases hk : k < heads.length
    · obtain ⟨b, off, rfl, hbl, g1, g2⟩ := (HH.out.below hR.bel).at_ hk
      have hok := List.all_eq_true.1 HA.out _ (List.getElem_mem hk)
      simp only [okHead, decide_eq_true_eq] at hok
      have hle := headsL_le (heads.take k) (by rw [List.all_eq_true]; exact fun x hx => List.all_eq_true.1 HA.out x (List.mem_of_mem_take hx))
      rw [List.length_take] at hle
      have hs1 := Lib.hid (headsL_take_succ hk)
      obtain ⟨o1, o2, o3⟩ := hok
      have q1 := txt_le heads[k].1
      have q2 := txt_le heads[k].2
      have t1 := fun w => text_c heads[k].1 w (by omega)
      have t2 := fun w => text_c heads[k].2 w (by omega)
      have S1 := Lib.hid (textG_list heads[k].1)
      have S2 := Lib.hid (textG_list heads[k].2)
      have Z1 := Lib.hid (textG_size heads[k].1)
      have Z2 := Lib.hid (textG_size heads[k].2)
      have HR := Lib.hid hR
      clear hR
      generalize textG heads[k].1 = gk at *
      generalize textG heads[k].2 = gv at *
      generalize txt heads[k].1 = lk at *
      generalize txt heads[k].2 = lv at *
      generalize heads[k].1 = hk1 at *
      generalize heads[k].2 = hk2 at *
      generalize headsL (heads.take k) = hl at *
      go_wp2_with fail
      (with_reducible refine (t1 _).mono ?_)
      rintro e v2 ⟨rfl, hb⟩
      have HV2 := Lib.hid ((HR.out.later ((Below.refl _ _).alloc (Nat.le_refl _) (.cells #[.string hk1, .string hk2] 62))).later hb)
      have HX2 := Lib.hid ((Box.new wr 62 #[.string hk1, .string hk2]).later hb)
      clear hb HS
      go_wp2_with fail
      (with_reducible refine (bwrite_c _ _ _ _ _ HV2.out.bld (by have hz := Z1.out; simp only [List.length_append]; omega) HV2.out.le).mono ?_)
      rintro e v3 ⟨rfl, hx1, hx2, hx3⟩
      have HV3 := Lib.hid (HV2.out.wrote (m := P ++ hl ++ lk) (by rw [S1.out] at hx1; exact hx1) hx2)
      have HX3 := Lib.hid (hx3.box HX2.out (by have := HR.out.le; have := (Bld.lt HR.out.bld); omega) (by decide))
      clear hx1 hx2 hx3 HV2 HX2
      have y0 := HX3.out.cell 0
      have y1 := HX3.out.cell 1
      simp only [List.getElem?_toArray, List.getElem?_cons_zero, List.getElem?_cons_succ] at y0 y1
      go_wp2_with fail
      (with_reducible refine (t2 _).mono ?_)
      rintro e v4 ⟨rfl, hb⟩
      have HV4 := Lib.hid (HV3.out.later hb)
      clear hb HV3 HX3
      go_wp2_with fail
      (with_reducible refine (bwrite_c _ _ _ _ _ HV4.out.bld (by have hz := Z2.out; simp only [List.length_append]; omega) HV4.out.le).mono ?_)
      rintro e v5 ⟨rfl, hx1, hx2, hx3⟩
      have HV5 := Lib.hid (HV4.out.wrote (m := P ++ headsL (heads.take (k + 1))) (by rw [S2.out] at hx1; rw [hs1.out]; simpa using hx1) hx2)
      clear hx1 hx2 hx3 HV4
      go_wp2
      go_roundw
      case rel => exact ⟨k + 1, by go_num, hk, HV5.out⟩
      case measure => simp [intOf]; omega
    · have hR2 : EncAt W #[.int .i64 place, .int .i64 time, .bool bare, .string key, .bool gone, .string value, .slice A heads.length c] w1.heap.size w1.heap.size L wr := by
        rw [HP.out]
        rwa [List.take_of_length_le (by omega)] at hR
      have HR := Lib.hid hR2
      clear hR hR2 HS
      have hbs : Lib.IsBuilder 125 5 w1.heap.size w1.heap.size (Lib.byteCells L) wr := HR.out.bld
      have hst := Tryd.Builder_String_any _ _ L _ hbs HR.out.le
      clear hbs
      go_wp2_with fail
      (with_reducible refine hst.mono ?_)
      rintro e v ⟨rfl, hb⟩
      go_wp2
      go_ret2
      exact ⟨by rw [HE.out]; rfl, HR.out.bel.trans (hb.mono (Nat.le_of_lt HR.out.lo))⟩
theorem enc_c (r : Rec) (A : Option Addr) (c : Nat) (W : World) (hR : RIn W r A c) :
    Calls Tryd.prog 73 #[recV r A c] W (Good W (.tuple #[.string (if okRec r = true then encR r else ⟨#[]⟩), .int .i64 (recE r)])) := by
  cases h : okRec r with
  | true =>
    rw [if_pos rfl, show recE r = 0 by unfold recE; rw [h]; rfl]
    exact enc_good r A c W hR h
  | false =>
    rw [if_neg (by decide), show recE r = 1 by unfold recE; rw [h]; rfl]
    exact enc_bad r A c W hR h
end Go.Proofs.YtdclkhbolmbnmaaDoor
/- The document's Encode of a record by a contract. -/
namespace Go.Proofs.YtdclkhbolmbnmaaDoor
open Go.RowKit
set_option linter.unusedVariables false
theorem recS_later {W w w' : World} {place time : Int} {key value : ByteArray} {A : Option Addr} {n c : Nat}
    (h : w.cell? ⟨W.heap.size, 0, none⟩ = some (.int .i64 place) ∧ w.cell? ⟨W.heap.size, 1, none⟩ = some (.int .i64 time) ∧ w.cell? ⟨W.heap.size, 3, none⟩ = some (.string key) ∧ w.cell? ⟨W.heap.size, 5, none⟩ = some (.string value) ∧ w.cell? ⟨W.heap.size, 6, none⟩ = some (.slice A n c) ∧ W.heap.size < w.heap.size ∧ Below W.heap.size W w)
    (hb : Below w.heap.size w w') :
    w'.cell? ⟨W.heap.size, 0, none⟩ = some (.int .i64 place) ∧ w'.cell? ⟨W.heap.size, 1, none⟩ = some (.int .i64 time) ∧ w'.cell? ⟨W.heap.size, 3, none⟩ = some (.string key) ∧ w'.cell? ⟨W.heap.size, 5, none⟩ = some (.string value) ∧ w'.cell? ⟨W.heap.size, 6, none⟩ = some (.slice A n c) ∧ W.heap.size < w'.heap.size ∧ Below W.heap.size W w' := by
  obtain ⟨h0, h1, h3, h5, h6, h7, h8⟩ := h
  have k := fun j => hb.cell (p := ⟨W.heap.size, j, none⟩) h7
  exact ⟨(k 0).trans h0, (k 1).trans h1, (k 3).trans h3, (k 5).trans h5, (k 6).trans h6, Nat.lt_of_lt_of_le h7 hb.size, h8.trans (hb.mono (Nat.le_of_lt h7))⟩
theorem recH_later {W w w' : World} {b off k : Nat} {x y : ByteArray} {n c : Nat}
    (h : w.cell? ⟨W.heap.size, 6, none⟩ = some (.slice (some ⟨b, off, none⟩) n c) ∧ w.cell? ⟨b, off + k * 2, none⟩ = some (.string x) ∧ w.cell? ⟨b, off + k * 2 + 1, none⟩ = some (.string y) ∧ b < w.heap.size ∧ W.heap.size < w.heap.size ∧ Below W.heap.size W w)
    (hb : Below w.heap.size w w') :
    w'.cell? ⟨W.heap.size, 6, none⟩ = some (.slice (some ⟨b, off, none⟩) n c) ∧ w'.cell? ⟨b, off + k * 2, none⟩ = some (.string x) ∧ w'.cell? ⟨b, off + k * 2 + 1, none⟩ = some (.string y) ∧ b < w'.heap.size ∧ W.heap.size < w'.heap.size ∧ Below W.heap.size W w' := by
  obtain ⟨h0, h1, h2, h3, h7, h8⟩ := h
  exact ⟨(hb.cell (p := ⟨W.heap.size, 6, none⟩) h7).trans h0, (hb.cell (p := ⟨b, off + k * 2, none⟩) h3).trans h1, (hb.cell (p := ⟨b, off + k * 2 + 1, none⟩) h3).trans h2, Nat.lt_of_lt_of_le h3 hb.size, Nat.lt_of_lt_of_le h7 hb.size, h8.trans (hb.mono (Nat.le_of_lt h7))⟩
theorem recH_out {W w : World} {b off k : Nat} {x y : ByteArray} {n c : Nat}
    (h : w.cell? ⟨W.heap.size, 6, none⟩ = some (.slice (some ⟨b, off, none⟩) n c) ∧ w.cell? ⟨b, off + k * 2, none⟩ = some (.string x) ∧ w.cell? ⟨b, off + k * 2 + 1, none⟩ = some (.string y) ∧ b < w.heap.size ∧ W.heap.size < w.heap.size ∧ Below W.heap.size W w) :
    w.cell? ⟨W.heap.size, 6, none⟩ = some (.slice (some ⟨b, off, none⟩) n c) ∧ W.heap.size < w.heap.size ∧ Below W.heap.size W w := ⟨h.1, h.2.2.2.2.1, h.2.2.2.2.2⟩
theorem headsG_succ {hs : List Hd} {k : Nat} (hk : k < hs.length) (G : ByteArray) : G ++ ⟨(headsL (hs.take (k + 1))).toArray⟩ = G ++ ⟨(headsL (hs.take k)).toArray⟩ ++ textG hs[k].1 ++ textG hs[k].2 := by
  rw [headsL_take_succ hk]
  apply ByteArray.ext
  simp [← txt_textG]
set_option maxHeartbeats 4000000 in
set_option maxRecDepth 100000 in
theorem renc_good (r : Rec) (A : Option Addr) (c : Nat) (W : World) (hR : RIn W r A c) (h : okRec r = true) :
    Calls Tryd.prog 49 #[recV r A c] W (Good W (.tuple #[.string (encR r), .int .i64 0])) := by
  have hc := rcheck_c r A c (W.alloc (.cells (recC r A c) 39)) (hR.below ((Below.refl _ _).alloc (Nat.le_refl _) _))
  rw [show recE r = 0 by unfold recE; rw [h]; rfl] at hc
  obtain ⟨⟨p0, p1, t0, t1⟩, ⟨k1, v1⟩, m1, ha⟩ := okRec_parts h
  have c1 := fun w => rput_c r.place w (by omega) (by omega)
  have c2 := fun w => rput_c r.time w (by omega) (by omega)
  have c3 := fun w => rput_c (marks r.bare r.gone) w (by have := marks_cases r.bare r.gone; omega) (by have := marks_cases r.bare r.gone; omega)
  have c4 := fun w => rtext_c r.key w (by omega)
  have c5 := fun w => rtext_c r.value w (by omega)
  have c6 := fun w => rput_c (r.heads.length : Int) w (by omega) (by omega)
  have HH := Lib.hid hR.heads
  have HA := Lib.hid ha
  have HM : Hid (marks r.bare r.gone = (if r.bare then 1 else 0) + (if r.gone then 2 else 0)) := Lib.hid rfl
  clear h hR ha
  have HE : Hid (encR r = ⟨(putL r.place).toArray⟩ ++ ⟨(putL r.time).toArray⟩ ++ ⟨(putL (marks r.bare r.gone)).toArray⟩ ++ textG r.key ++ textG r.value ++ ⟨(putL r.heads.length).toArray⟩ ++ ⟨(headsL r.heads).toArray⟩) := Lib.hid (by
    apply ByteArray.ext
    simp [encR, encL, ← txt_textG])
  have z1 : (⟨(putL r.place).toArray⟩ : ByteArray).size ≤ 10 := put_size _
  have z2 : (⟨(putL r.time).toArray⟩ : ByteArray).size ≤ 10 := put_size _
  have z3 : (⟨(putL (marks r.bare r.gone)).toArray⟩ : ByteArray).size ≤ 10 := put_size _
  have z4 : (textG r.key).size ≤ 2000 := by have := textG_size r.key; have := txt_le r.key; omega
  have z5 : (textG r.value).size ≤ 2000 := by have := textG_size r.value; have := txt_le r.value; omega
  have z6 : (⟨(putL r.heads.length).toArray⟩ : ByteArray).size ≤ 10 := put_size _
  generalize encR r = res at *
  obtain ⟨place, time, bare, key, gone, value, heads⟩ := r
  simp only at *
  generalize marks bare gone = mk at *
  generalize (⟨(putL place).toArray⟩ : ByteArray) = g1 at *
  generalize (⟨(putL time).toArray⟩ : ByteArray) = g2 at *
  generalize (⟨(putL mk).toArray⟩ : ByteArray) = g3 at *
  generalize textG key = g4 at *
  generalize textG value = g5 at *
  generalize (⟨(putL (heads.length : Int)).toArray⟩ : ByteArray) = g6 at *
  have a2 := add_run (P := Tryd.prog) z1 z2 (by decide)
  have b2 := cat_le z1 z2
  have a3 := add_run (P := Tryd.prog) b2 z3 (by decide)
  have b3 := cat_le b2 z3
  have a4 := add_run (P := Tryd.prog) b3 z4 (by decide)
  have b4 := cat_le b3 z4
  have a5 := add_run (P := Tryd.prog) b4 z5 (by decide)
  have b5 := cat_le b4 z5
  have a6 := add_run (P := Tryd.prog) b5 z6 (by decide)
  have b6 := cat_le b5 z6
  unfold recV recC at *
  simp only at *
  clear z1 z2 z3 z4 z5 z6
  have hmk : (bare = false ∧ gone = false ∧ mk = 0) ∨ (bare = true ∧ gone = false ∧ mk = 1) ∨ (bare = false ∧ gone = true ∧ mk = 2) ∨ (bare = true ∧ gone = true ∧ mk = 3) := by
    have h := HM.out
    cases bare <;> cases gone <;> simp at h <;> simp [h]
  clear HM
  have HMK := Lib.hid hmk
  clear hmk
  go_enter Tryd.func49, Tryd.ntmps49
  go_wp2_with fail
  (with_reducible refine hc.mono ?_)
  rintro e w1 ⟨rfl, hb1⟩
  have HB1 := (Box.new W 39 #[.int .i64 place, .int .i64 time, .bool bare, .string key, .bool gone, .string value, .slice A heads.length c]).later hb1
  obtain ⟨x0, x1, x2, x3, x4, x5, x6⟩ := recC_at (r := ⟨place, time, bare, key, gone, value, heads⟩) (A := A) (c := c) HB1
  have hl1 := HB1.lt
  have hbel : Below W.heap.size W w1 := ((Below.refl _ _).alloc (Nat.le_refl _) _).trans (hb1.mono (by simp))
  have HS := Lib.hid (And.intro x0 (And.intro x1 (And.intro x3 (And.intro x5 (And.intro x6 (And.intro hl1 hbel))))))
  simp only at x0 x1 x2 x3 x4 x5 x6
  clear hb1 HB1 hc
  obtain ⟨mb, hmb⟩ : ∃ mb : Int, mb = if bare then 1 else 0 := ⟨_, rfl⟩
  have HMB := Lib.hid hmb
  clear hmb
  go_upto_if 14 with (fail)
  go_cut [5] (fun f w => f = .int .i64 mb ∧ w1 = w)
  case first =>
    have h := HMB.out
    cases bare <;> simp at h <;> subst h
    all_goals go_wp2_with fail
    all_goals go_meet
    all_goals exact ⟨rfl, rfl⟩
  case rest =>
    obtain ⟨rfl, rfl⟩ := hcut
    go_upto_if 16 with (fail)
    go_cut [5] (fun f w => f = .int .i64 mk ∧ w1 = w)
    case first =>
      have h := HMB.out
      rcases HMK.out with ⟨rfl, rfl, rfl⟩ | ⟨rfl, rfl, rfl⟩ | ⟨rfl, rfl, rfl⟩ | ⟨rfl, rfl, rfl⟩
      all_goals simp at h
      all_goals subst h
      all_goals go_wp2_with fail
      all_goals go_meet
      all_goals exact ⟨rfl, rfl⟩
    case rest =>
      obtain ⟨rfl, rfl⟩ := hcut
      have hS := HS.out
      clear x0 x1 x2 x3 x4 x5 x6 HMK HMB
      go_upto_region 9 with fail
      go_cut [6] (fun f w => f = .string (g1 ++ g2 ++ g3 ++ g4 ++ g5 ++ g6) ∧ w.cell? ⟨W.heap.size, 0, none⟩ = some (.int .i64 place) ∧ w.cell? ⟨W.heap.size, 1, none⟩ = some (.int .i64 time) ∧ w.cell? ⟨W.heap.size, 3, none⟩ = some (.string key) ∧ w.cell? ⟨W.heap.size, 5, none⟩ = some (.string value) ∧ w.cell? ⟨W.heap.size, 6, none⟩ = some (.slice A heads.length c) ∧ W.heap.size < w.heap.size ∧ Below W.heap.size W w)
      case first =>
        go_region_held3 (fun w => w.cell? ⟨W.heap.size, 0, none⟩ = some (.int .i64 place) ∧ w.cell? ⟨W.heap.size, 1, none⟩ = some (.int .i64 time) ∧ w.cell? ⟨W.heap.size, 3, none⟩ = some (.string key) ∧ w.cell? ⟨W.heap.size, 5, none⟩ = some (.string value) ∧ w.cell? ⟨W.heap.size, 6, none⟩ = some (.slice A heads.length c) ∧ W.heap.size < w.heap.size ∧ Below W.heap.size W w)
          (first | exact recS_later hS ((Below.refl _ _).drew) | exact recS_later (by assumption) (by assumption))
          (first
            | ((with_reducible refine (c1 _).mono ?_); rintro e w2 ⟨rfl, hb2⟩)
            | ((with_reducible refine (c2 _).mono ?_); rintro e w2 ⟨rfl, hb2⟩)
            | ((with_reducible refine (c3 _).mono ?_); rintro e w2 ⟨rfl, hb2⟩)
            | ((with_reducible refine (c4 _).mono ?_); rintro e w2 ⟨rfl, hb2⟩)
            | ((with_reducible refine (c5 _).mono ?_); rintro e w2 ⟨rfl, hb2⟩)
            | ((with_reducible refine (c6 _).mono ?_); rintro e w2 ⟨rfl, hb2⟩))
        all_goals go_wp2_with fail
        all_goals go_meet
        all_goals exact ⟨rfl, by assumption⟩
      case rest =>
        clear hS HS c1 c2 c3 c4 c5 c6 a2 a3 a4 a5 a6 b2 b3 b4 b5 hl1 hbel
        generalize g1 ++ g2 ++ g3 ++ g4 ++ g5 ++ g6 = G at *
        obtain ⟨rfl, _, _, _, _, hx6, hxl, hxb⟩ := hcut
        go_wp2_with fail
        have h00 : G = G ++ ⟨(headsL (heads.take 0)).toArray⟩ := by
          apply ByteArray.ext
          simp [headsL]
        have H00 := Lib.hid h00
        clear h00
        go_loopw [6, 7] (fun st i wr => ∃ k : Nat, i = .int .i64 k ∧ k ≤ heads.length ∧ st = .string (G ++ ⟨(headsL (heads.take k)).toArray⟩) ∧ wr.cell? ⟨W.heap.size, 6, none⟩ = some (.slice A heads.length c) ∧ W.heap.size < wr.heap.size ∧ Below W.heap.size W wr) (fun _ i _ => heads.length - (intOf i).toNat)
        case atStart => exact ⟨0, rfl, Nat.zero_le _, congrArg Value.string H00.out, hx6, hxl, hxb⟩
        case round =>
          obtain ⟨k, rfl, hkl, rfl, y6, yl, yb⟩ := hrel
          clear hx6 hxl hxb H00
          by_cases hk : k < heads.length
          · obtain ⟨b, off, rfl, hbl, q1, q2⟩ := (HH.out.below yb).at_ hk
            have hok := List.all_eq_true.1 HA.out _ (List.getElem_mem hk)
            simp only [okHead, decide_eq_true_eq] at hok
            have hle := headsL_le (heads.take k) (by rw [List.all_eq_true]; exact fun x hx => List.all_eq_true.1 HA.out x (List.mem_of_mem_take hx))
            rw [List.length_take] at hle
            obtain ⟨o1, o2, o3⟩ := hok
            have t1 := fun w => rtext_c heads[k].1 w (by omega)
            have t2 := fun w => rtext_c heads[k].2 w (by omega)
            have Z1 : (textG heads[k].1).size ≤ 2000 := by have := textG_size heads[k].1; have := txt_le heads[k].1; omega
            have Z2 : (textG heads[k].2).size ≤ 2000 := by have := textG_size heads[k].2; have := txt_le heads[k].2; omega
            have HS1 := Lib.hid (headsG_succ hk G)
            have zl : (⟨(headsL (heads.take k)).toArray⟩ : ByteArray).size ≤ 30000 := by
              show (headsL (heads.take k)).length ≤ _
              have : min k heads.length ≤ 10 := by omega
              omega
            have zg := cat_le b6 zl
            generalize textG heads[k].1 = gk at *
            generalize textG heads[k].2 = gv at *
            generalize heads[k].1 = hk1 at *
            generalize heads[k].2 = hk2 at *
            generalize G ++ ⟨(headsL (heads.take k)).toArray⟩ = X at *
            have a1 := add_run (P := Tryd.prog) zg Z1 (by decide)
            have zg2 := cat_le zg Z1
            have a2 := add_run (P := Tryd.prog) zg2 Z2 (by decide)
            have hki : (k : Int) < (heads.length : Int) := by omega
            clear hle zl zg zg2 Z1 Z2 o1 o2 o3
            have hS := And.intro y6 (And.intro q1 (And.intro q2 (And.intro hbl (And.intro yl yb))))
            go_wp2_with fail
            go_region_held3 (fun w => w.cell? ⟨W.heap.size, 6, none⟩ = some (.slice (some ⟨b, off, none⟩) heads.length c) ∧ w.cell? ⟨b, off + k * 2, none⟩ = some (.string hk1) ∧ w.cell? ⟨b, off + k * 2 + 1, none⟩ = some (.string hk2) ∧ b < w.heap.size ∧ W.heap.size < w.heap.size ∧ Below W.heap.size W w)
              (first | exact recH_later hS ((Below.refl _ _).drew) | exact recH_later (by assumption) (by assumption))
              (first
                | ((with_reducible refine (t1 _).mono ?_); rintro e w2 ⟨rfl, hb2⟩)
                | ((with_reducible refine (t2 _).mono ?_); rintro e w2 ⟨rfl, hb2⟩))
            all_goals
              clear hS y6 yl yb t1 t2 a1 a2
              go_wp2
              go_roundw
              case rel => exact ⟨k + 1, by go_num, hk, congrArg Value.string HS1.out.symm, recH_out (by assumption)⟩
              case measure => simp [intOf]; omega
          · have hF : Hid (res = G ++ ⟨(headsL (heads.take k)).toArray⟩) := Lib.hid (by rw [HE.out, List.take_of_length_le (by omega)])
            generalize G ++ ⟨(headsL (heads.take k)).toArray⟩ = X at *
            go_wp2
            go_ret2
            exact ⟨by rw [hF.out]; rfl, yb⟩
set_option maxHeartbeats 4000000 in
set_option maxRecDepth 100000 in
theorem renc_bad (r : Rec) (A : Option Addr) (c : Nat) (W : World) (hR : RIn W r A c) (h : okRec r = false) :
    Calls Tryd.prog 49 #[recV r A c] W (Good W (.tuple #[.string ⟨#[]⟩, .int .i64 1])) := by
  have hc := rcheck_c r A c (W.alloc (.cells (recC r A c) 39)) (hR.below ((Below.refl _ _).alloc (Nat.le_refl _) _))
  rw [show recE r = 1 by unfold recE; rw [h]; rfl] at hc
  clear h hR
  unfold recV recC at *
  go_enter Tryd.func49, Tryd.ntmps49
  go_wp2_with ((with_reducible refine hc.mono ?_); rintro e w1 ⟨rfl, hb1⟩)
  go_ret2
  exact ⟨rfl, ((Below.refl _ _).alloc (Nat.le_refl _) _).trans (hb1.mono (by simp))⟩
theorem renc_c (r : Rec) (A : Option Addr) (c : Nat) (W : World) (hR : RIn W r A c) :
    Calls Tryd.prog 49 #[recV r A c] W (Good W (.tuple #[.string (if okRec r = true then encR r else ⟨#[]⟩), .int .i64 (recE r)])) := by
  cases h : okRec r with
  | true =>
    rw [if_pos rfl, show recE r = 0 by unfold recE; rw [h]; rfl]
    exact renc_good r A c W hR h
  | false =>
    rw [if_neg (by decide), show recE r = 1 by unfold recE; rw [h]; rfl]
    exact renc_bad r A c W hR h
end Go.Proofs.YtdclkhbolmbnmaaDoor
/- The document's body of a batch. -/
namespace Go.Proofs.YtdclkhbolmbnmaaDoor
open Go.RowKit
set_option linter.unusedVariables false
def encsL (L : List RX) : List UInt8 := L.flatMap fun x => encL x.1
def frontL (b : BN) (n : Nat) : List UInt8 := putL b.base ++ putL b.span ++ putL b.prod ++ putL b.epoch ++ putL b.seq ++ putL n
def bodyL (b : BN) (L : List RX) : List UInt8 := frontL b L.length ++ encsL L
theorem encsL_take_succ {L : List RX} {k : Nat} {x : RX} (h : L[k]? = some x) : encsL (L.take (k + 1)) = encsL (L.take k) ++ encL x.1 := by
  obtain ⟨hk, hx⟩ := List.getElem?_eq_some_iff.1 h
  rw [List.take_succ_eq_append_getElem hk, hx]
  simp [encsL]
theorem encL_le {r : Rec} (h : okRec r = true) : (encL r).length ≤ 22300 := by
  obtain ⟨⟨p0, p1, t0, t1⟩, ⟨k1, v1⟩, m1, ha⟩ := okRec_parts h
  have h1 := putL_len r.place
  have h2 := putL_len r.time
  have h3 := putL_len (marks r.bare r.gone)
  have h4 := txt_le r.key
  have h5 := txt_le r.value
  have h6 := putL_len (r.heads.length : Int)
  have h7 := headsL_le r.heads ha
  unfold encL
  simp only [List.length_append]
  omega
theorem encsL_le : ∀ (L : List RX), (∀ x ∈ L, okRec x.1 = true) → (encsL L).length ≤ L.length * 22300
  | [], _ => by simp [encsL]
  | x :: L, h => by
    have h1 := encL_le (h x (List.mem_cons_self ..))
    have h2 := encsL_le L (fun y hy => h y (List.mem_cons_of_mem _ hy))
    have : encsL (x :: L) = encL x.1 ++ encsL L := by simp [encsL]
    rw [this]
    simp only [List.length_append, List.length_cons]
    omega
theorem numB_range {b : BN} (h : numB b = true) : (0 ≤ b.base ∧ b.base ≤ 1099511627776) ∧ (1 ≤ b.span ∧ b.span ≤ 50) ∧ (-1 ≤ b.prod ∧ b.prod ≤ 1073741824) ∧ (-1 ≤ b.epoch ∧ b.epoch ≤ 32768) ∧ (-1 ≤ b.seq ∧ b.seq ≤ 1073741824) := by
  unfold numB noneB someB wi at h
  simp only [Bool.and_eq_true, Bool.or_eq_true, decide_eq_true_eq] at h
  obtain ⟨⟨⟨⟨h1, h2⟩, h3⟩, h4⟩, h5⟩ := h
  rcases h5 with ⟨⟨h5, h6⟩, h7⟩ | ⟨⟨⟨h5, h6⟩, h7, h8⟩, h9, h10⟩
  · refine ⟨⟨h1, h2⟩, ⟨h3, h4⟩, ?_, ?_, ?_⟩ <;> omega
  · refine ⟨⟨h1, h2⟩, ⟨h3, h4⟩, ?_, ?_, ?_⟩ <;> omega
theorem bnS_later {W w w' : World} {v0 v1 v2 v3 v4 v5 : Value}
    (h : w.cell? ⟨W.heap.size, 0, none⟩ = some v0 ∧ w.cell? ⟨W.heap.size, 1, none⟩ = some v1 ∧ w.cell? ⟨W.heap.size, 2, none⟩ = some v2 ∧ w.cell? ⟨W.heap.size, 3, none⟩ = some v3 ∧ w.cell? ⟨W.heap.size, 4, none⟩ = some v4 ∧ w.cell? ⟨W.heap.size, 5, none⟩ = some v5 ∧ W.heap.size < w.heap.size ∧ Below W.heap.size W w)
    (hb : Below w.heap.size w w') :
    w'.cell? ⟨W.heap.size, 0, none⟩ = some v0 ∧ w'.cell? ⟨W.heap.size, 1, none⟩ = some v1 ∧ w'.cell? ⟨W.heap.size, 2, none⟩ = some v2 ∧ w'.cell? ⟨W.heap.size, 3, none⟩ = some v3 ∧ w'.cell? ⟨W.heap.size, 4, none⟩ = some v4 ∧ w'.cell? ⟨W.heap.size, 5, none⟩ = some v5 ∧ W.heap.size < w'.heap.size ∧ Below W.heap.size W w' := by
  obtain ⟨h0, h1, h2, h3, h4, h5, h7, h8⟩ := h
  have k := fun j => hb.cell (p := ⟨W.heap.size, j, none⟩) h7
  exact ⟨(k 0).trans h0, (k 1).trans h1, (k 2).trans h2, (k 3).trans h3, (k 4).trans h4, (k 5).trans h5, Nat.lt_of_lt_of_le h7 hb.size, h8.trans (hb.mono (Nat.le_of_lt h7))⟩
set_option maxHeartbeats 8000000 in
set_option maxRecDepth 100000 in
theorem rbody_c (b : BN) (A : Option Addr) (c : Nat) (L : List RX) (W : World) (h : RsIn W A L) (hlen : L.length ≤ 50) (hn : numB b = true) (ha : ∀ x ∈ L, okRec x.1 = true) :
    Calls Tryd.prog 37 #[.agg (bnC b (.slice A L.length c))] W (Good W (.string ⟨(bodyL b L).toArray⟩)) := by
  have hr := numB_range hn
  clear hn
  obtain ⟨base, span, prod, epoch, seq⟩ := b
  simp only at hr
  obtain ⟨r1, r2, r3, r4, r5⟩ := hr
  have c1 := fun w => rput_c base w (by omega) (by omega)
  have c2 := fun w => rput_c span w (by omega) (by omega)
  have c3 := fun w => rput_c prod w (by omega) (by omega)
  have c4 := fun w => rput_c epoch w (by omega) (by omega)
  have c5 := fun w => rput_c seq w (by omega) (by omega)
  have c6 := fun w => rput_c (L.length : Int) w (by omega) (by omega)
  have HE : Hid ((⟨(bodyL ⟨base, span, prod, epoch, seq⟩ L).toArray⟩ : ByteArray) = ⟨(putL base).toArray⟩ ++ ⟨(putL span).toArray⟩ ++ ⟨(putL prod).toArray⟩ ++ ⟨(putL epoch).toArray⟩ ++ ⟨(putL seq).toArray⟩ ++ ⟨(putL L.length).toArray⟩ ++ ⟨(encsL L).toArray⟩) := Lib.hid (by
    apply ByteArray.ext
    simp [bodyL, frontL])
  have z1 : (⟨(putL base).toArray⟩ : ByteArray).size ≤ 10 := put_size _
  have z2 : (⟨(putL span).toArray⟩ : ByteArray).size ≤ 10 := put_size _
  have z3 : (⟨(putL prod).toArray⟩ : ByteArray).size ≤ 10 := put_size _
  have z4 : (⟨(putL epoch).toArray⟩ : ByteArray).size ≤ 10 := put_size _
  have z5 : (⟨(putL seq).toArray⟩ : ByteArray).size ≤ 10 := put_size _
  have z6 : (⟨(putL L.length).toArray⟩ : ByteArray).size ≤ 10 := put_size _
  generalize (⟨(bodyL ⟨base, span, prod, epoch, seq⟩ L).toArray⟩ : ByteArray) = res at *
  clear r1 r2 r3 r4 r5
  generalize (⟨(putL base).toArray⟩ : ByteArray) = g1 at *
  generalize (⟨(putL span).toArray⟩ : ByteArray) = g2 at *
  generalize (⟨(putL prod).toArray⟩ : ByteArray) = g3 at *
  generalize (⟨(putL epoch).toArray⟩ : ByteArray) = g4 at *
  generalize (⟨(putL seq).toArray⟩ : ByteArray) = g5 at *
  generalize (⟨(putL (L.length : Int)).toArray⟩ : ByteArray) = g6 at *
  have a2 := add_run (P := Tryd.prog) z1 z2 (by decide)
  have b2 := cat_le z1 z2
  have a3 := add_run (P := Tryd.prog) b2 z3 (by decide)
  have b3 := cat_le b2 z3
  have a4 := add_run (P := Tryd.prog) b3 z4 (by decide)
  have b4 := cat_le b3 z4
  have a5 := add_run (P := Tryd.prog) b4 z5 (by decide)
  have b5 := cat_le b4 z5
  have a6 := add_run (P := Tryd.prog) b5 z6 (by decide)
  have b6 := cat_le b5 z6
  clear z1 z2 z3 z4 z5 z6
  have hbel : Below W.heap.size W (W.alloc (.cells #[.int .i64 base, .int .i64 span, .int .i64 prod, .int .i64 epoch, .int .i64 seq, .slice A L.length c] 29)) := (Below.refl _ W).alloc (Nat.le_refl _) _
  have hbx := Box.new W 29 #[.int .i64 base, .int .i64 span, .int .i64 prod, .int .i64 epoch, .int .i64 seq, .slice A L.length c]
  have y0 := (hbx.cell 0).trans rfl
  have y1 := (hbx.cell 1).trans rfl
  have y2 := (hbx.cell 2).trans rfl
  have y3 := (hbx.cell 3).trans rfl
  have y4 := (hbx.cell 4).trans rfl
  have y5 := (hbx.cell 5).trans rfl
  simp only [List.getElem?_toArray, List.getElem?_cons_zero, List.getElem?_cons_succ] at y0 y1 y2 y3 y4 y5
  have hS := And.intro y0 (And.intro y1 (And.intro y2 (And.intro y3 (And.intro y4 (And.intro y5 (And.intro hbx.lt hbel))))))
  clear hbx hbel
  unfold bnC
  simp only
  go_enter Tryd.func37, Tryd.ntmps37
  go_upto_region 1 with fail
  generalize hW0 : (W.alloc (.cells #[.int .i64 base, .int .i64 span, .int .i64 prod, .int .i64 epoch, .int .i64 seq, .slice A L.length c] 29)) = W0 at *
  clear hW0
  go_cut [3] (fun f w => f = .string (g1 ++ g2 ++ g3 ++ g4 ++ g5 ++ g6) ∧ w.cell? ⟨W.heap.size, 0, none⟩ = some (.int .i64 base) ∧ w.cell? ⟨W.heap.size, 1, none⟩ = some (.int .i64 span) ∧ w.cell? ⟨W.heap.size, 2, none⟩ = some (.int .i64 prod) ∧ w.cell? ⟨W.heap.size, 3, none⟩ = some (.int .i64 epoch) ∧ w.cell? ⟨W.heap.size, 4, none⟩ = some (.int .i64 seq) ∧ w.cell? ⟨W.heap.size, 5, none⟩ = some (.slice A L.length c) ∧ W.heap.size < w.heap.size ∧ Below W.heap.size W w)
  case first =>
    go_region_held3 (fun w => w.cell? ⟨W.heap.size, 0, none⟩ = some (.int .i64 base) ∧ w.cell? ⟨W.heap.size, 1, none⟩ = some (.int .i64 span) ∧ w.cell? ⟨W.heap.size, 2, none⟩ = some (.int .i64 prod) ∧ w.cell? ⟨W.heap.size, 3, none⟩ = some (.int .i64 epoch) ∧ w.cell? ⟨W.heap.size, 4, none⟩ = some (.int .i64 seq) ∧ w.cell? ⟨W.heap.size, 5, none⟩ = some (.slice A L.length c) ∧ W.heap.size < w.heap.size ∧ Below W.heap.size W w)
      (first | exact bnS_later hS ((Below.refl _ _).drew) | exact bnS_later (by assumption) (by assumption))
      (first
        | ((with_reducible refine (c1 _).mono ?_); rintro e w2 ⟨rfl, hb2⟩)
        | ((with_reducible refine (c2 _).mono ?_); rintro e w2 ⟨rfl, hb2⟩)
        | ((with_reducible refine (c3 _).mono ?_); rintro e w2 ⟨rfl, hb2⟩)
        | ((with_reducible refine (c4 _).mono ?_); rintro e w2 ⟨rfl, hb2⟩)
        | ((with_reducible refine (c5 _).mono ?_); rintro e w2 ⟨rfl, hb2⟩)
        | ((with_reducible refine (c6 _).mono ?_); rintro e w2 ⟨rfl, hb2⟩))
    all_goals go_wp2_with fail
    all_goals go_meet
    all_goals exact ⟨rfl, by assumption⟩
  case rest =>
    clear hS y0 y1 y2 y3 y4 y5 c1 c2 c3 c4 c5 c6 a2 a3 a4 a5 a6 b2 b3 b4 b5
    generalize g1 ++ g2 ++ g3 ++ g4 ++ g5 ++ g6 = G at *
    obtain ⟨rfl, _, _, _, _, _, hx5, hxl, hxb⟩ := hcut
    go_wp2_with fail
    have h00 : G = G ++ ⟨(encsL (L.take 0)).toArray⟩ := by
      apply ByteArray.ext
      simp [encsL]
    have H00 := Lib.hid h00
    clear h00
    go_loopw [3, 4] (fun st i wr => ∃ k : Nat, i = .int .i64 k ∧ k ≤ L.length ∧ st = .string (G ++ ⟨(encsL (L.take k)).toArray⟩) ∧ wr.cell? ⟨W.heap.size, 5, none⟩ = some (.slice A L.length c) ∧ W.heap.size < wr.heap.size ∧ Below W.heap.size W wr) (fun _ i _ => L.length - (intOf i).toNat)
    case atStart => exact ⟨0, rfl, Nat.zero_le _, congrArg Value.string H00.out, hx5, hxl, hxb⟩
    case round =>
      obtain ⟨k, rfl, hkl, rfl, y5, yl, yb⟩ := hrel
      clear hx5 hxl hxb H00
      by_cases hk : k < L.length
      · obtain ⟨x, hx⟩ : ∃ x, L[k]? = some x := ⟨_, List.getElem?_eq_getElem hk⟩
        obtain ⟨bb, off, rfl, hlt, hall⟩ := (h.below yb) (by omega)
        obtain ⟨⟨x0, x1, x2, x3, x4, x5, x6⟩, hRI⟩ := hall k x hx
        have hxm : x ∈ L := List.mem_of_getElem? hx
        have hok := ha x hxm
        have ce := renc_c x.1 x.2.1 x.2.2 wr hRI
        rw [if_pos hok, show recE x.1 = 0 by unfold recE; rw [if_pos hok]] at ce
        have zl : (⟨(encsL (L.take k)).toArray⟩ : ByteArray).size ≤ 1115000 := by
          show (encsL (L.take k)).length ≤ _
          have hle := encsL_le (L.take k) (fun y hy => ha y (List.mem_of_mem_take hy))
          rw [List.length_take] at hle
          have : min k L.length ≤ 50 := by omega
          omega
        have ze : (encR x.1).size ≤ 22300 := encL_le hok
        have zg := cat_le b6 zl
        have hsuc : G ++ ⟨(encsL (L.take (k + 1))).toArray⟩ = G ++ ⟨(encsL (L.take k)).toArray⟩ ++ encR x.1 := by
          rw [encsL_take_succ hx]
          apply ByteArray.ext
          simp [encR]
        have HS1 := Lib.hid hsuc
        generalize encR x.1 = E1 at *
        generalize G ++ ⟨(encsL (L.take k)).toArray⟩ = X at *
        have a1 := add_run (P := Tryd.prog) zg ze (by decide)
        have HY := Lib.hid (And.intro y5 (And.intro yl yb))
        clear hsuc zl ze zg hall hok hxm hlt
        unfold recV recC at ce
        go_wp2_with fail
        (with_reducible refine ce.mono ?_)
        rintro e w2 ⟨rfl, hb2⟩
        have hz5 : w2.cell? ⟨W.heap.size, 5, none⟩ = some (.slice (some ⟨bb, off, none⟩) L.length c) := (hb2.cell (p := ⟨W.heap.size, 5, none⟩) HY.out.2.1).trans HY.out.1
        have HZ := Lib.hid (And.intro (Nat.lt_of_lt_of_le HY.out.2.1 hb2.size) (HY.out.2.2.trans (hb2.mono (Nat.le_of_lt HY.out.2.1))))
        clear hb2
        go_wp2
        go_roundw
        case rel => exact ⟨k + 1, by go_num, hk, congrArg Value.string HS1.out.symm, hz5, HZ.out.1, HZ.out.2⟩
        case measure => simp [intOf]; omega
      · have hF : Hid (res = G ++ ⟨(encsL (L.take k)).toArray⟩) := Lib.hid (by rw [HE.out, List.take_of_length_le (by omega)])
        generalize G ++ ⟨(encsL (L.take k)).toArray⟩ = X at *
        go_wp2
        go_ret
        exact ⟨by rw [hF.out]; rfl, yb⟩
end Go.Proofs.YtdclkhbolmbnmaaDoor
/- The document's Check of a batch. -/
namespace Go.Proofs.YtdclkhbolmbnmaaDoor
open Go.RowKit
set_option linter.unusedVariables false
/-- Records that may be, at places that rise. -/
def goodL (span : Int) : Int → List RX → Bool
  | _, [] => true
  | last, x :: r => okRec x.1 && (decide (x.1.place < span) && (decide (last < x.1.place) && goodL span x.1.place r))
theorem goodL_eq (span : Int) : ∀ (L : List RX) (last : Int), goodL span last L = (placedL span last L && L.all fun x => okRec x.1)
  | [], _ => rfl
  | x :: r, last => by
    unfold goodL placedL
    rw [goodL_eq span r]
    simp only [List.all_cons]
    cases okRec x.1 <;> cases decide (x.1.place < span) <;> cases decide (last < x.1.place) <;> simp
theorem goodL_drop {span last : Int} {L : List RX} {j : Nat} {x : RX} (h : L[j]? = some x) : goodL span last (L.drop j) = (okRec x.1 && (decide (x.1.place < span) && (decide (last < x.1.place) && goodL span x.1.place (L.drop (j + 1))))) := by
  obtain ⟨hj, hx⟩ := List.getElem?_eq_some_iff.1 h
  rw [List.drop_eq_getElem_cons hj, hx]
  rfl
/-- What stands beside the cells that a round of the document's Check reads. -/
structure ChkS (W wr : World) (bb : Nat) (cs : Array Value) (w : World) : Prop where
  bel : Below W.heap.size W w
  box : Box w W.heap.size 29 cs
  al : Below wr.heap.size wr w
  lt : wr.heap.size < w.heap.size
  bl : bb < w.heap.size
theorem chkS_later {W wr w w' : World} {bb qo : Nat} {cs : Array Value} {v0 v1 v2 v3 v4 v5 v6 v7 v8 v9 : Value}
    (h : w.cell? ⟨wr.heap.size, 0, none⟩ = some (v0) ∧ w.cell? ⟨wr.heap.size, 1, none⟩ = some (v1) ∧ w.cell? ⟨wr.heap.size, 2, none⟩ = some (v2) ∧ w.cell? ⟨wr.heap.size, 3, none⟩ = some (v3) ∧ w.cell? ⟨wr.heap.size, 4, none⟩ = some (v4) ∧ w.cell? ⟨wr.heap.size, 5, none⟩ = some (v5) ∧ w.cell? ⟨wr.heap.size, 6, none⟩ = some (v6) ∧ w.cell? ⟨W.heap.size, 1, none⟩ = some (v7) ∧ w.cell? ⟨W.heap.size, 5, none⟩ = some (v8) ∧ w.cell? ⟨bb, qo, none⟩ = some (v9) ∧ ChkS W wr bb cs w)
    (hb : Below w.heap.size w w') :
    w'.cell? ⟨wr.heap.size, 0, none⟩ = some (v0) ∧ w'.cell? ⟨wr.heap.size, 1, none⟩ = some (v1) ∧ w'.cell? ⟨wr.heap.size, 2, none⟩ = some (v2) ∧ w'.cell? ⟨wr.heap.size, 3, none⟩ = some (v3) ∧ w'.cell? ⟨wr.heap.size, 4, none⟩ = some (v4) ∧ w'.cell? ⟨wr.heap.size, 5, none⟩ = some (v5) ∧ w'.cell? ⟨wr.heap.size, 6, none⟩ = some (v6) ∧ w'.cell? ⟨W.heap.size, 1, none⟩ = some (v7) ∧ w'.cell? ⟨W.heap.size, 5, none⟩ = some (v8) ∧ w'.cell? ⟨bb, qo, none⟩ = some (v9) ∧ ChkS W wr bb cs w' := by
  obtain ⟨h0, h1, h2, h3, h4, h5, h6, h7, h8, h9, ⟨s1, s2, s3, s4, s5⟩⟩ := h
  have k := fun j => hb.cell (p := ⟨wr.heap.size, j, none⟩) s4
  have m := fun j => hb.cell (p := ⟨W.heap.size, j, none⟩) s2.lt
  exact ⟨(k 0).trans h0, (k 1).trans h1, (k 2).trans h2, (k 3).trans h3, (k 4).trans h4, (k 5).trans h5, (k 6).trans h6, (m 1).trans h7, (m 5).trans h8, (hb.cell (p := ⟨bb, qo, none⟩) s5).trans h9,
    ⟨s1.trans (hb.mono s1.size), s2.later hb, s3.trans (hb.mono s3.size), Nat.lt_of_lt_of_le s4 hb.size, Nat.lt_of_lt_of_le s5 hb.size⟩⟩
/-- Whether a batch may be. -/
def batB (b : BN) (L : List RX) : Bool := numB b && (decide (L.length ≤ 50) && (goodL b.span (-1) L && decide ((bodyL b L).length ≤ 60000)))
section
variable {P : Program} {md : Region.Mode} {l : List Oper} {Q : Exit → Act → World → Prop} {S : World → Prop}
theorem takeW {i : Nat} {oi : Oper} {v : Value} {fuel : Nat} {listed : Array Bool} {a : Act} {w : World} (hi : l[i]? = some oi)
    (hs : Region.noSelect l.toArray = true) (hf : Region.free md l.toArray listed i = true) (hr : (Region.ready md l.toArray listed).contains i = true)
    (hQ : ∀ c a w, Q (.panic c) (a.put oi.dst v) w → Q (.panic c) a w) (hw : Region.wanted oi (yielded l.toArray a.tmps) = true) (hS : S w) (hy : ∀ w, S w → (execOp a.eval oi).run P w = .ok (.value v) w)
    (h : wpAnyH P md l.toArray Q S fuel (listed.setIfInBounds i true) (a.put oi.dst v) w) : wpAnyH P md l.toArray Q S (fuel + 1) listed a w :=
  wpAnyH_take (List.getElem?_toArray.trans hi) hs hf hr hQ (.inl ⟨hw, hy⟩) hS h
theorem takeU {i : Nat} {oi : Oper} {fuel : Nat} {listed : Array Bool} {a : Act} {w : World} (hi : l[i]? = some oi)
    (hs : Region.noSelect l.toArray = true) (hf : Region.free md l.toArray listed i = true) (hr : (Region.ready md l.toArray listed).contains i = true)
    (hQ : ∀ c a w, Q (.panic c) (a.put oi.dst undef) w → Q (.panic c) a w) (hw : Region.wanted oi (yielded l.toArray a.tmps) = false) (hS : S w)
    (h : wpAnyH P md l.toArray Q S fuel (listed.setIfInBounds i true) (a.put oi.dst undef) w) : wpAnyH P md l.toArray Q S (fuel + 1) listed a w :=
  wpAnyH_take (List.getElem?_toArray.trans hi) hs hf hr hQ (.inr ⟨hw, rfl⟩) hS h
theorem consL {i : Nat} {o : Oper} {rs : List Nat} {fuel : Nat} {listed : Array Bool} {a : Act} {w : World} (hi : l[i]? = some o) (hw : Region.wanted o (yielded l.toArray a.tmps) = true)
    (h : ∀ K' : Act → World → Prop, Shut (∀ a w, S w → (S w → wpAnyH P md l.toArray Q S fuel (listed.setIfInBounds i true) a w) → K' a w) → Oper.wp P o a w K' Q)
    (hs : AllReadyH P md l.toArray Q S fuel listed a w rs) : AllReadyH P md l.toArray Q S fuel listed a w (i :: rs) :=
  AllReadyH.cons (List.getElem?_toArray.trans hi) (fun K' hK => by rw [if_pos hw]; exact h K' hK) hs
end
theorem okRec_place {r : Rec} (h : okRec r = true) : (-1 : Int) < r.place := by
  obtain ⟨⟨p0, p1, t0, t1⟩, _⟩ := okRec_parts h
  omega
def batE (b : BN) (L : List RX) : Int := if batB b L = true then 0 else 1
/-- The place ahead of the k-th record. -/
def prevP (L : List RX) : Nat → Int
  | 0 => -1
  | k + 1 => match L[k]? with | some x => x.1.place | none => -1
theorem numB_whoB {base span prod epoch seq : Int} (h1 : 0 ≤ base) (h2 : base ≤ 1099511627776) (h3 : 1 ≤ span) (h4 : span ≤ 50) : numB ⟨base, span, prod, epoch, seq⟩ = whoB ⟨base, span, prod, epoch, seq⟩ := by
  unfold numB whoB wi
  simp [h1, h2, h3, h4]
set_option maxHeartbeats 16000000 in
set_option maxRecDepth 100000 in
theorem rcheck5_c (b : BN) (A : Option Addr) (c : Nat) (L : List RX) (W : World) (h : RsIn W A L) (hlen : L.length ≤ 140737488351232) :
    Calls Tryd.prog 27 #[.agg (bnC b (.slice A L.length c))] W (Good W (.int .i64 (batE b L))) := by
  obtain ⟨base, span, prod, epoch, seq⟩ := b
  have hbel : Below W.heap.size W (W.alloc (.cells #[.int .i64 base, .int .i64 span, .int .i64 prod, .int .i64 epoch, .int .i64 seq, .slice A L.length c] 29)) := (Below.refl _ W).alloc (Nat.le_refl _) _
  have hbx := Box.new W 29 #[.int .i64 base, .int .i64 span, .int .i64 prod, .int .i64 epoch, .int .i64 seq, .slice A L.length c]
  have y0 := (hbx.cell 0).trans rfl
  have y1 := (hbx.cell 1).trans rfl
  have y2 := (hbx.cell 2).trans rfl
  have y3 := (hbx.cell 3).trans rfl
  have y4 := (hbx.cell 4).trans rfl
  have y5 := (hbx.cell 5).trans rfl
  simp only [List.getElem?_toArray, List.getElem?_cons_zero, List.getElem?_cons_succ] at y0 y1 y2 y3 y4 y5
  have HX := Lib.hid (And.intro hbel hbx)
  clear hbel hbx
  obtain ⟨res, hres⟩ : ∃ res, batE ⟨base, span, prod, epoch, seq⟩ L = res := ⟨_, rfl⟩
  rw [hres]
  have HR := Lib.hid hres
  clear hres
  have cw := fun v w => who_c ⟨base, span, prod, epoch, seq⟩ v w
  unfold bnC at *
  simp only at *
  by_cases q1 : base < 0
  ·
    have hr : res = 1 := by rw [← HR.out]; unfold batE batB; rw [show numB ⟨base, span, prod, epoch, seq⟩ = false by unfold numB wi; rw [decide_eq_false (show ¬ (0:Int) ≤ base by omega)]; simp]; simp
    subst hr
    go_enter Tryd.func27, Tryd.ntmps27
    go_wp2_with ((with_reducible refine (cw _ _).mono ?_); rintro e w1 ⟨rfl, hb1⟩)
    go_ret
    exact ⟨rfl, HX.out.1⟩
  by_cases q2 : 1099511627776 < base
  ·
    have hr : res = 1 := by rw [← HR.out]; unfold batE batB; rw [show numB ⟨base, span, prod, epoch, seq⟩ = false by unfold numB wi; rw [decide_eq_false (show ¬ base ≤ 1099511627776 by omega)]; simp]; simp
    subst hr
    go_enter Tryd.func27, Tryd.ntmps27
    go_wp2_with ((with_reducible refine (cw _ _).mono ?_); rintro e w1 ⟨rfl, hb1⟩)
    go_ret
    exact ⟨rfl, HX.out.1⟩
  by_cases q3 : span < 1
  ·
    have hr : res = 1 := by rw [← HR.out]; unfold batE batB; rw [show numB ⟨base, span, prod, epoch, seq⟩ = false by unfold numB wi; simp only; rw [decide_eq_false (show ¬ (1:Int) ≤ span by omega)]; simp]; simp
    subst hr
    go_enter Tryd.func27, Tryd.ntmps27
    go_wp2_with ((with_reducible refine (cw _ _).mono ?_); rintro e w1 ⟨rfl, hb1⟩)
    go_ret
    exact ⟨rfl, HX.out.1⟩
  by_cases q4 : 50 < span
  ·
    have hr : res = 1 := by rw [← HR.out]; unfold batE batB; rw [show numB ⟨base, span, prod, epoch, seq⟩ = false by unfold numB wi; simp only; rw [decide_eq_false (show ¬ span ≤ 50 by omega)]; simp]; simp
    subst hr
    go_enter Tryd.func27, Tryd.ntmps27
    go_wp2_with ((with_reducible refine (cw _ _).mono ?_); rintro e w1 ⟨rfl, hb1⟩)
    go_ret
    exact ⟨rfl, HX.out.1⟩
  have hnw := numB_whoB (prod := prod) (epoch := epoch) (seq := seq) (show 0 ≤ base by omega) (show base ≤ 1099511627776 by omega) (show 1 ≤ span by omega) (show span ≤ 50 by omega)
  cases hw : whoB ⟨base, span, prod, epoch, seq⟩ with
  | false =>
    rw [hw] at cw hnw
    have HN := Lib.hid hnw
    clear hnw hw
    have hr : res = 1 := by rw [← HR.out]; unfold batE batB; rw [HN.out]; simp
    subst hr
    go_enter Tryd.func27, Tryd.ntmps27
    go_wp2_with ((with_reducible refine (cw _ _).mono ?_); rintro e w1 ⟨rfl, hb1⟩)
    go_ret
    exact ⟨rfl, HX.out.1.trans (hb1.mono HX.out.1.size)⟩
  | true =>
    rw [hw] at cw hnw
    have HN := Lib.hid hnw
    clear hnw hw
    by_cases q5 : 50 < L.length
    · have q5' : (50 : Int) < (L.length : Int) := by omega
      have hr : res = 1 := by rw [← HR.out]; unfold batE batB; rw [decide_eq_false (show ¬ L.length ≤ 50 by omega)]; simp
      subst hr
      go_enter Tryd.func27, Tryd.ntmps27
      go_wp2_with fail
      (with_reducible refine (cw _ _).mono ?_)
      rintro e w1 ⟨rfl, hb1⟩
      have HW := Lib.hid (And.intro (HX.out.1.trans (hb1.mono HX.out.1.size)) (HX.out.2.later hb1))
      have z1 := (HW.out.2.cell 1).trans rfl
      have z5 := (HW.out.2.cell 5).trans rfl
      simp only [List.getElem?_toArray, List.getElem?_cons_zero, List.getElem?_cons_succ] at z1 z5
      clear hb1 HX y0 y1 y2 y3 y4 y5
      go_wp2_with fail
      go_ret
      exact ⟨rfl, HW.out.1⟩
    · have q5' : ¬ (50 : Int) < (L.length : Int) := by omega
      go_enter Tryd.func27, Tryd.ntmps27
      go_wp2_with fail
      (with_reducible refine (cw _ _).mono ?_)
      rintro e w1 ⟨rfl, hb1⟩
      have HW := Lib.hid (And.intro (HX.out.1.trans (hb1.mono HX.out.1.size)) (HX.out.2.later hb1))
      have z1 := (HW.out.2.cell 1).trans rfl
      have z5 := (HW.out.2.cell 5).trans rfl
      simp only [List.getElem?_toArray, List.getElem?_cons_zero, List.getElem?_cons_succ] at z1 z5
      clear hb1 HX y0 y1 y2 y3 y4 y5
      go_wp2_with fail
      obtain ⟨g, hg⟩ : ∃ g, goodL span (prevP L 0) (L.drop 0) = g := ⟨_, rfl⟩
      have HG : Hid (goodL span (-1) L = g) := Lib.hid (by rw [← hg, List.drop_zero]; rfl)
      have HG0 := Lib.hid hg
      clear hg z1 z5 cw
      go_loopw [3, 4] (fun i _ wr => ∃ k : Nat, i = .int .i64 k ∧ k ≤ L.length ∧ goodL span (prevP L k) (L.drop k) = g ∧ Below W.heap.size W wr ∧ Box wr W.heap.size 29 #[.int .i64 base, .int .i64 span, .int .i64 prod, .int .i64 epoch, .int .i64 seq, .slice A L.length c]) (fun i _ _ => L.length - (intOf i).toNat)
      case atStart => exact ⟨0, rfl, Nat.zero_le _, HG0.out, HW.out.1, HW.out.2⟩
      case round =>
        obtain ⟨k, rfl, hkl, hgd, hbw, hbb⟩ := hrel
        by_cases hk : k < L.length
        · obtain ⟨x, hx⟩ : ∃ x, L[k]? = some x := ⟨_, List.getElem?_eq_getElem hk⟩
          obtain ⟨bb, off, rfl, hlt, hall⟩ := (h.below hbw) (by omega)
          obtain ⟨⟨x0, x1, x2, x3, x4, x5, x6⟩, hRI⟩ := hall k x hx
          rw [goodL_drop hx] at hgd
          have y5 := (hbb.cell 5).trans rfl
          simp only [List.getElem?_toArray, List.getElem?_cons_zero, List.getElem?_cons_succ] at y5
          have hbr : Box (wr.alloc (.cells (recC x.1 x.2.1 x.2.2) 39)) wr.heap.size 39 (recC x.1 x.2.1 x.2.2) := Box.new wr 39 _
          have hb1 : Below W.heap.size W (wr.alloc (.cells (recC x.1 x.2.1 x.2.2) 39)) := hbw.alloc hbw.size _
          have hB1 : Box (wr.alloc (.cells (recC x.1 x.2.1 x.2.2) 39)) W.heap.size 29 #[.int .i64 base, .int .i64 span, .int .i64 prod, .int .i64 epoch, .int .i64 seq, .slice (some ⟨bb, off, none⟩) L.length c] := hbb.alloc _
          have hal : Below wr.heap.size wr (wr.alloc (.cells (recC x.1 x.2.1 x.2.2) 39)) := (Below.refl _ wr).alloc (Nat.le_refl _) _
          have cc := rcheck_c x.1 x.2.1 x.2.2 (wr.alloc (.cells (recC x.1 x.2.1 x.2.2) 39)) (hRI.below hal)
          obtain ⟨n0, n1, n2, n3, n4, n5, n6⟩ := recC_at hbr
          have H1 := Lib.hid (And.intro hb1 (And.intro hB1 (And.intro hbr hal)))
          have HA := Lib.hid (And.intro hlt hall)
          clear hb1 hB1 hbr hal hall hbw hbb hlt
          unfold recV recC at *
          go_wp2_with fail
          have hq : ∃ (qo : Nat) (qv : Int), wr.cell? ⟨bb, qo, none⟩ = some (.int .i64 qv) ∧ (k = 0 ∨ ∃ m, k = m + 1 ∧ qo = off + m * 7 ∧ qv = prevP L k) := by
            cases k with
            | zero => exact ⟨_, _, x0, .inl rfl⟩
            | succ m =>
              obtain ⟨y, hy⟩ : ∃ y, L[m]? = some y := ⟨_, List.getElem?_eq_getElem (by omega)⟩
              refine ⟨off + m * 7, y.1.place, (HA.out.2 m y hy).1.1, .inr ⟨m, rfl, rfl, ?_⟩⟩
              show _ = (match L[m]? with | some x => x.1.place | none => -1)
              rw [hy]
          obtain ⟨qo, qv, hq0, hqk⟩ := hq
          have hq1 := (H1.out.2.2.2.cell (p := ⟨bb, qo, none⟩) HA.out.1).trans hq0
          have z1 := (H1.out.2.1.cell 1).trans rfl
          have z5 := (H1.out.2.1.cell 5).trans rfl
          simp only [List.getElem?_toArray, List.getElem?_cons_zero, List.getElem?_cons_succ] at z1 z5
          have hS := And.intro n0 (And.intro n1 (And.intro n2 (And.intro n3 (And.intro n4 (And.intro n5 (And.intro n6 (And.intro z1 (And.intro z5 (And.intro hq1 (ChkS.mk H1.out.1 H1.out.2.1 H1.out.2.2.2 H1.out.2.2.1.lt (Nat.lt_of_lt_of_le HA.out.1 H1.out.2.2.2.size)))))))))))
          have hcc : ∀ w, (w.cell? ⟨wr.heap.size, 0, none⟩ = some (.int .i64 x.1.place) ∧ w.cell? ⟨wr.heap.size, 1, none⟩ = some (.int .i64 x.1.time) ∧ w.cell? ⟨wr.heap.size, 2, none⟩ = some (.bool x.1.bare) ∧ w.cell? ⟨wr.heap.size, 3, none⟩ = some (.string x.1.key) ∧ w.cell? ⟨wr.heap.size, 4, none⟩ = some (.bool x.1.gone) ∧ w.cell? ⟨wr.heap.size, 5, none⟩ = some (.string x.1.value) ∧ w.cell? ⟨wr.heap.size, 6, none⟩ = some (.slice x.2.1 x.1.heads.length x.2.2) ∧ w.cell? ⟨W.heap.size, 1, none⟩ = some (.int .i64 span) ∧ w.cell? ⟨W.heap.size, 5, none⟩ = some (.slice (some ⟨bb, off, none⟩) L.length c) ∧ w.cell? ⟨bb, qo, none⟩ = some (.int .i64 qv) ∧ ChkS W wr bb #[.int .i64 base, .int .i64 span, .int .i64 prod, .int .i64 epoch, .int .i64 seq, .slice (some ⟨bb, off, none⟩) L.length c] w) → Calls Tryd.prog 36 #[.agg #[.int .i64 x.1.place, .int .i64 x.1.time, .bool x.1.bare, .string x.1.key, .bool x.1.gone, .string x.1.value, .slice x.2.1 x.1.heads.length x.2.2]] w (Good w (.int .i64 (recE x.1))) := fun w hw => rcheck_c x.1 x.2.1 x.2.2 w (hRI.below hw.2.2.2.2.2.2.2.2.2.2.al)
          clear cc hq0 z1 z5 hq1 n0 n1 n2 n3 n4 n5 n6 x0 x1 x2 x3 x4 x5 x6 y5 HA
          have hSw : (fun w => w.cell? ⟨wr.heap.size, 0, none⟩ = some (.int .i64 x.1.place) ∧ w.cell? ⟨wr.heap.size, 1, none⟩ = some (.int .i64 x.1.time) ∧ w.cell? ⟨wr.heap.size, 2, none⟩ = some (.bool x.1.bare) ∧ w.cell? ⟨wr.heap.size, 3, none⟩ = some (.string x.1.key) ∧ w.cell? ⟨wr.heap.size, 4, none⟩ = some (.bool x.1.gone) ∧ w.cell? ⟨wr.heap.size, 5, none⟩ = some (.string x.1.value) ∧ w.cell? ⟨wr.heap.size, 6, none⟩ = some (.slice x.2.1 x.1.heads.length x.2.2) ∧ w.cell? ⟨W.heap.size, 1, none⟩ = some (.int .i64 span) ∧ w.cell? ⟨W.heap.size, 5, none⟩ = some (.slice (some ⟨bb, off, none⟩) L.length c) ∧ w.cell? ⟨bb, qo, none⟩ = some (.int .i64 qv) ∧ ChkS W wr bb #[.int .i64 base, .int .i64 span, .int .i64 prod, .int .i64 epoch, .int .i64 seq, .slice (some ⟨bb, off, none⟩) L.length c] w) (wr.alloc (.cells #[.int .i64 x.1.place, .int .i64 x.1.time, .bool x.1.bare, .string x.1.key, .bool x.1.gone, .string x.1.value, .slice x.2.1 x.1.heads.length x.2.2] 39)).drew := chkS_later hS ((Below.refl _ _).drew)
          by_cases t1 : okRec x.1 = true
          · have e1 : recE x.1 = 0 := by unfold recE; rw [if_pos t1]
            rw [e1] at hcc
            by_cases t2 : span ≤ x.1.place
            · have hgf : g = false := by rw [← hgd, decide_eq_false (show ¬ x.1.place < span by omega)]; simp
              have hr : res = 1 := by rw [← HR.out]; unfold batE batB; rw [HG.out, hgf]; simp
              subst hr
              clear hgd hqk
              refine wp_region_held_drew (S := (fun w => w.cell? ⟨wr.heap.size, 0, none⟩ = some (.int .i64 x.1.place) ∧ w.cell? ⟨wr.heap.size, 1, none⟩ = some (.int .i64 x.1.time) ∧ w.cell? ⟨wr.heap.size, 2, none⟩ = some (.bool x.1.bare) ∧ w.cell? ⟨wr.heap.size, 3, none⟩ = some (.string x.1.key) ∧ w.cell? ⟨wr.heap.size, 4, none⟩ = some (.bool x.1.gone) ∧ w.cell? ⟨wr.heap.size, 5, none⟩ = some (.string x.1.value) ∧ w.cell? ⟨wr.heap.size, 6, none⟩ = some (.slice x.2.1 x.1.heads.length x.2.2) ∧ w.cell? ⟨W.heap.size, 1, none⟩ = some (.int .i64 span) ∧ w.cell? ⟨W.heap.size, 5, none⟩ = some (.slice (some ⟨bb, off, none⟩) L.length c) ∧ w.cell? ⟨bb, qo, none⟩ = some (.int .i64 qv) ∧ ChkS W wr bb #[.int .i64 base, .int .i64 span, .int .i64 prod, .int .i64 epoch, .int .i64 seq, .slice (some ⟨bb, off, none⟩) L.length c] w)) (by kernel_rfl) hSw (fun hHeld => ?_)
              refine takeW (i := 0) (v := ?v1) rfl (by kernel_rfl) (by kernel_rfl) (by kernel_rfl) (fun _ _ _ h => h) (by kernel_rfl) hHeld ?hy1 ?rest1
              case hy1 => (intro w hSw; (try dsimp only at hSw); go_simp; (try with_reducible rfl))
              try simp only [Act.put, List.setIfInBounds_toArray, List.set_cons_zero, List.set_cons_succ]
              refine wpAnyH_ready (rs := [1]) (by kernel_rfl) (by simp) ?_
              refine consL rfl (by kernel_rfl) (fun K hK => ?_) AllReadyH.nil
              go_simp
              (with_reducible refine (hcc _ hHeld).mono ?_)
              rintro e w2 ⟨rfl, hb2⟩
              refine hK.out _ _ (chkS_later hHeld hb2) (fun hHeld => ?_)
              clear hK K
              try simp only [Act.put, List.setIfInBounds_toArray, List.set_cons_zero, List.set_cons_succ]
              refine takeW (i := 2) (v := ?v2) rfl (by kernel_rfl) (by kernel_rfl) (by kernel_rfl) (fun _ _ _ h => h) (by kernel_rfl) hHeld ?hy2 ?rest2
              case hy2 => (intro w hSw; (try dsimp only at hSw); go_simp; (try with_reducible rfl))
              try simp only [Act.put, List.setIfInBounds_toArray, List.set_cons_zero, List.set_cons_succ]
              refine takeW (i := 3) (v := ?v3) rfl (by kernel_rfl) (by kernel_rfl) (by kernel_rfl) (fun _ _ _ h => h) (by kernel_rfl) hHeld ?hy3 ?rest3
              case hy3 => (intro w hSw; (try dsimp only at hSw); go_simp; (try with_reducible rfl))
              try simp only [Act.put, List.setIfInBounds_toArray, List.set_cons_zero, List.set_cons_succ]
              refine takeW (i := 4) (v := ?v4) rfl (by kernel_rfl) (by kernel_rfl) (by kernel_rfl) (fun _ _ _ h => h) (by kernel_rfl) hHeld ?hy4 ?rest4
              case hy4 => (intro w hSw; (try dsimp only at hSw); go_simp; (try with_reducible rfl))
              try simp only [Act.put, List.setIfInBounds_toArray, List.set_cons_zero, List.set_cons_succ]
              refine takeW (i := 5) (v := ?v5) rfl (by kernel_rfl) (by kernel_rfl) (by kernel_rfl) (fun _ _ _ h => h) (by kernel_rfl) hHeld ?hy5 ?rest5
              case hy5 => (intro w hSw; (try dsimp only at hSw); go_simp; (try with_reducible rfl))
              try simp only [Act.put, List.setIfInBounds_toArray, List.set_cons_zero, List.set_cons_succ]
              refine takeW (i := 6) (v := ?v6) rfl (by kernel_rfl) (by kernel_rfl) (by kernel_rfl) (fun _ _ _ h => h) (by kernel_rfl) hHeld ?hy6 ?rest6
              case hy6 => (intro w hSw; (try dsimp only at hSw); go_simp; (try with_reducible rfl))
              try simp only [Act.put, List.setIfInBounds_toArray, List.set_cons_zero, List.set_cons_succ]
              refine takeW (i := 7) (v := ?v7) rfl (by kernel_rfl) (by kernel_rfl) (by kernel_rfl) (fun _ _ _ h => h) (by kernel_rfl) hHeld ?hy7 ?rest7
              case hy7 => (intro w hSw; (try dsimp only at hSw); go_simp; (try with_reducible rfl))
              try simp only [Act.put, List.setIfInBounds_toArray, List.set_cons_zero, List.set_cons_succ]
              refine takeW (i := 8) (v := ?v8) rfl (by kernel_rfl) (by kernel_rfl) (by kernel_rfl) (fun _ _ _ h => h) (by kernel_rfl) hHeld ?hy8 ?rest8
              case hy8 => (intro w hSw; (try dsimp only at hSw); go_simp; (try with_reducible rfl))
              try simp only [Act.put, List.setIfInBounds_toArray, List.set_cons_zero, List.set_cons_succ]
              refine takeW (i := 9) (v := ?v9) rfl (by kernel_rfl) (by kernel_rfl) (by kernel_rfl) (fun _ _ _ h => h) (by kernel_rfl) hHeld ?hy9 ?rest9
              case hy9 => (intro w hSw; (try dsimp only at hSw); go_simp; (try with_reducible rfl))
              try simp only [Act.put, List.setIfInBounds_toArray, List.set_cons_zero, List.set_cons_succ]
              refine takeW (i := 10) (v := ?v10) rfl (by kernel_rfl) (by kernel_rfl) (by kernel_rfl) (fun _ _ _ h => h) (by kernel_rfl) hHeld ?hy10 ?rest10
              case hy10 => (intro w hSw; (try dsimp only at hSw); go_simp; (try with_reducible rfl))
              try simp only [Act.put, List.setIfInBounds_toArray, List.set_cons_zero, List.set_cons_succ]
              refine takeU (i := 11) rfl (by kernel_rfl) (by kernel_rfl) (by kernel_rfl) (fun _ _ _ h => h) (by kernel_rfl) hHeld ?_
              try simp only [Act.put, List.setIfInBounds_toArray, List.set_cons_zero, List.set_cons_succ]
              refine takeU (i := 12) rfl (by kernel_rfl) (by kernel_rfl) (by kernel_rfl) (fun _ _ _ h => h) (by kernel_rfl) hHeld ?_
              try simp only [Act.put, List.setIfInBounds_toArray, List.set_cons_zero, List.set_cons_succ]
              refine takeU (i := 13) rfl (by kernel_rfl) (by kernel_rfl) (by kernel_rfl) (fun _ _ _ h => h) (by kernel_rfl) hHeld ?_
              try simp only [Act.put, List.setIfInBounds_toArray, List.set_cons_zero, List.set_cons_succ]
              refine takeU (i := 14) rfl (by kernel_rfl) (by kernel_rfl) (by kernel_rfl) (fun _ _ _ h => h) (by kernel_rfl) hHeld ?_
              try simp only [Act.put, List.setIfInBounds_toArray, List.set_cons_zero, List.set_cons_succ]
              refine takeU (i := 15) rfl (by kernel_rfl) (by kernel_rfl) (by kernel_rfl) (fun _ _ _ h => h) (by kernel_rfl) hHeld ?_
              try simp only [Act.put, List.setIfInBounds_toArray, List.set_cons_zero, List.set_cons_succ]
              refine takeU (i := 16) rfl (by kernel_rfl) (by kernel_rfl) (by kernel_rfl) (fun _ _ _ h => h) (by kernel_rfl) hHeld ?_
              try simp only [Act.put, List.setIfInBounds_toArray, List.set_cons_zero, List.set_cons_succ]
              refine takeU (i := 17) rfl (by kernel_rfl) (by kernel_rfl) (by kernel_rfl) (fun _ _ _ h => h) (by kernel_rfl) hHeld ?_
              try simp only [Act.put, List.setIfInBounds_toArray, List.set_cons_zero, List.set_cons_succ]
              refine takeU (i := 18) rfl (by kernel_rfl) (by kernel_rfl) (by kernel_rfl) (fun _ _ _ h => h) (by kernel_rfl) hHeld ?_
              try simp only [Act.put, List.setIfInBounds_toArray, List.set_cons_zero, List.set_cons_succ]
              refine takeU (i := 19) rfl (by kernel_rfl) (by kernel_rfl) (by kernel_rfl) (fun _ _ _ h => h) (by kernel_rfl) hHeld ?_
              try simp only [Act.put, List.setIfInBounds_toArray, List.set_cons_zero, List.set_cons_succ]
              refine takeU (i := 20) rfl (by kernel_rfl) (by kernel_rfl) (by kernel_rfl) (fun _ _ _ h => h) (by kernel_rfl) hHeld ?_
              try simp only [Act.put, List.setIfInBounds_toArray, List.set_cons_zero, List.set_cons_succ]
              refine takeU (i := 21) rfl (by kernel_rfl) (by kernel_rfl) (by kernel_rfl) (fun _ _ _ h => h) (by kernel_rfl) hHeld ?_
              try simp only [Act.put, List.setIfInBounds_toArray, List.set_cons_zero, List.set_cons_succ]
              refine takeU (i := 22) rfl (by kernel_rfl) (by kernel_rfl) (by kernel_rfl) (fun _ _ _ h => h) (by kernel_rfl) hHeld ?_
              try simp only [Act.put, List.setIfInBounds_toArray, List.set_cons_zero, List.set_cons_succ]
              refine takeU (i := 23) rfl (by kernel_rfl) (by kernel_rfl) (by kernel_rfl) (fun _ _ _ h => h) (by kernel_rfl) hHeld ?_
              try simp only [Act.put, List.setIfInBounds_toArray, List.set_cons_zero, List.set_cons_succ]
              refine takeU (i := 24) rfl (by kernel_rfl) (by kernel_rfl) (by kernel_rfl) (fun _ _ _ h => h) (by kernel_rfl) hHeld ?_
              try simp only [Act.put, List.setIfInBounds_toArray, List.set_cons_zero, List.set_cons_succ]
              refine takeW (i := 25) (v := ?v11) rfl (by kernel_rfl) (by kernel_rfl) (by kernel_rfl) (fun _ _ _ h => h) (by kernel_rfl) hHeld ?hy11 ?rest11
              case hy11 => (intro w hSw; (try dsimp only at hSw); go_simp; (try with_reducible rfl))
              try simp only [Act.put, List.setIfInBounds_toArray, List.set_cons_zero, List.set_cons_succ]
              refine wpAnyH_done (by kernel_rfl) ?_ _
              go_wp2_with fail
              go_ret
              exact ⟨rfl, hHeld.2.2.2.2.2.2.2.2.2.2.bel⟩
            · have t2' : x.1.place < span := by omega
              have d2 : decide (span ≤ x.1.place) = false := decide_eq_false t2
              rcases hqk with rfl | ⟨m, rfl, rfl, rfl⟩
              · have hpl : (-1 : Int) < x.1.place := by have := okRec_place t1; omega
                have HGD : Hid (goodL span (prevP L 1) (L.drop 1) = g) := Lib.hid (by
                  rw [t1, decide_eq_true t2', show prevP L 0 = -1 from rfl, decide_eq_true hpl] at hgd
                  have e9 : prevP L 1 = x.1.place := by show (match L[0]? with | some x => x.1.place | none => -1) = _; rw [hx]
                  rw [e9]
                  simpa using hgd)
                clear hgd
                refine wp_region_held_drew (S := (fun w => w.cell? ⟨wr.heap.size, 0, none⟩ = some (.int .i64 x.1.place) ∧ w.cell? ⟨wr.heap.size, 1, none⟩ = some (.int .i64 x.1.time) ∧ w.cell? ⟨wr.heap.size, 2, none⟩ = some (.bool x.1.bare) ∧ w.cell? ⟨wr.heap.size, 3, none⟩ = some (.string x.1.key) ∧ w.cell? ⟨wr.heap.size, 4, none⟩ = some (.bool x.1.gone) ∧ w.cell? ⟨wr.heap.size, 5, none⟩ = some (.string x.1.value) ∧ w.cell? ⟨wr.heap.size, 6, none⟩ = some (.slice x.2.1 x.1.heads.length x.2.2) ∧ w.cell? ⟨W.heap.size, 1, none⟩ = some (.int .i64 span) ∧ w.cell? ⟨W.heap.size, 5, none⟩ = some (.slice (some ⟨bb, off, none⟩) L.length c) ∧ w.cell? ⟨bb, qo, none⟩ = some (.int .i64 qv) ∧ ChkS W wr bb #[.int .i64 base, .int .i64 span, .int .i64 prod, .int .i64 epoch, .int .i64 seq, .slice (some ⟨bb, off, none⟩) L.length c] w)) (by kernel_rfl) hSw (fun hHeld => ?_)
                refine takeW (i := 0) (v := ?v12) rfl (by kernel_rfl) (by kernel_rfl) (by kernel_rfl) (fun _ _ _ h => h) (by kernel_rfl) hHeld ?hy12 ?rest12
                case hy12 => (intro w hSw; (try dsimp only at hSw); go_simp; (try with_reducible rfl))
                try simp only [Act.put, List.setIfInBounds_toArray, List.set_cons_zero, List.set_cons_succ]
                refine wpAnyH_ready (rs := [1]) (by kernel_rfl) (by simp) ?_
                refine consL rfl (by kernel_rfl) (fun K hK => ?_) AllReadyH.nil
                go_simp
                (with_reducible refine (hcc _ hHeld).mono ?_)
                rintro e w2 ⟨rfl, hb2⟩
                refine hK.out _ _ (chkS_later hHeld hb2) (fun hHeld => ?_)
                clear hK K
                try simp only [Act.put, List.setIfInBounds_toArray, List.set_cons_zero, List.set_cons_succ]
                refine takeW (i := 2) (v := ?v13) rfl (by kernel_rfl) (by kernel_rfl) (by kernel_rfl) (fun _ _ _ h => h) (by kernel_rfl) hHeld ?hy13 ?rest13
                case hy13 => (intro w hSw; (try dsimp only at hSw); go_simp; (try with_reducible rfl))
                try simp only [Act.put, List.setIfInBounds_toArray, List.set_cons_zero, List.set_cons_succ]
                refine takeW (i := 3) (v := ?v14) rfl (by kernel_rfl) (by kernel_rfl) (by kernel_rfl) (fun _ _ _ h => h) (by kernel_rfl) hHeld ?hy14 ?rest14
                case hy14 => (intro w hSw; (try dsimp only at hSw); go_simp; (try with_reducible rfl))
                try simp only [Act.put, List.setIfInBounds_toArray, List.set_cons_zero, List.set_cons_succ]
                refine takeW (i := 4) (v := ?v15) rfl (by kernel_rfl) (by kernel_rfl) (by kernel_rfl) (fun _ _ _ h => h) (by kernel_rfl) hHeld ?hy15 ?rest15
                case hy15 => (intro w hSw; (try dsimp only at hSw); go_simp; (try with_reducible rfl))
                try simp only [Act.put, List.setIfInBounds_toArray, List.set_cons_zero, List.set_cons_succ]
                refine takeW (i := 5) (v := ?v16) rfl (by kernel_rfl) (by kernel_rfl) (by kernel_rfl) (fun _ _ _ h => h) (by kernel_rfl) hHeld ?hy16 ?rest16
                case hy16 => (intro w hSw; (try dsimp only at hSw); go_simp; (try with_reducible rfl))
                try simp only [Act.put, List.setIfInBounds_toArray, List.set_cons_zero, List.set_cons_succ]
                refine takeW (i := 6) (v := ?v17) rfl (by kernel_rfl) (by kernel_rfl) (by kernel_rfl) (fun _ _ _ h => h) (by kernel_rfl) hHeld ?hy17 ?rest17
                case hy17 => (intro w hSw; (try dsimp only at hSw); go_simp; (try with_reducible rfl))
                try simp only [Act.put, List.setIfInBounds_toArray, List.set_cons_zero, List.set_cons_succ]
                refine takeW (i := 7) (v := ?v18) rfl (by kernel_rfl) (by kernel_rfl) (by kernel_rfl) (fun _ _ _ h => h) (by kernel_rfl) hHeld ?hy18 ?rest18
                case hy18 => (intro w hSw; (try dsimp only at hSw); go_simp; (try with_reducible rfl))
                try simp only [Act.put, List.setIfInBounds_toArray, List.set_cons_zero, List.set_cons_succ]
                refine takeW (i := 8) (v := ?v19) rfl (by kernel_rfl) (by kernel_rfl) (by kernel_rfl) (fun _ _ _ h => h) (by kernel_rfl) hHeld ?hy19 ?rest19
                case hy19 => (intro w hSw; (try dsimp only at hSw); go_simp; (try with_reducible rfl))
                try simp only [Act.put, List.setIfInBounds_toArray, List.set_cons_zero, List.set_cons_succ]
                refine takeW (i := 9) (v := ?v20) rfl (by kernel_rfl) (by kernel_rfl) (by kernel_rfl) (fun _ _ _ h => h) (by kernel_rfl) hHeld ?hy20 ?rest20
                case hy20 => (intro w hSw; (try dsimp only at hSw); go_simp; (try with_reducible rfl))
                try simp only [Act.put, List.setIfInBounds_toArray, List.set_cons_zero, List.set_cons_succ]
                refine takeW (i := 10) (v := ?v21) rfl (by kernel_rfl) (by kernel_rfl) (by kernel_rfl) (fun _ _ _ h => h) (by kernel_rfl) hHeld ?hy21 ?rest21
                case hy21 => (intro w hSw; (try dsimp only at hSw); go_simp; (try with_reducible rfl))
                try simp only [Act.put, List.setIfInBounds_toArray, List.set_cons_zero, List.set_cons_succ]
                refine takeW (i := 11) (v := ?v22) rfl (by kernel_rfl) (by kernel_rfl) (by kernel_rfl) (fun _ _ _ h => h) (by kernel_rfl) hHeld ?hy22 ?rest22
                case hy22 => (intro w hSw; (try dsimp only at hSw); go_simp; (try with_reducible rfl))
                try simp only [Act.put, List.setIfInBounds_toArray, List.set_cons_zero, List.set_cons_succ]
                refine takeW (i := 12) (v := ?v23) rfl (by kernel_rfl) (by kernel_rfl) (by kernel_rfl) (fun _ _ _ h => h) (by kernel_rfl) hHeld ?hy23 ?rest23
                case hy23 => (intro w hSw; (try dsimp only at hSw); go_simp; (try with_reducible rfl))
                try simp only [Act.put, List.setIfInBounds_toArray, List.set_cons_zero, List.set_cons_succ]
                refine takeW (i := 13) (v := ?v24) rfl (by kernel_rfl) (by kernel_rfl) (by kernel_rfl) (fun _ _ _ h => h) (by kernel_rfl) hHeld ?hy24 ?rest24
                case hy24 => (intro w hSw; (try dsimp only at hSw); go_simp; (try with_reducible rfl))
                try simp only [Act.put, List.setIfInBounds_toArray, List.set_cons_zero, List.set_cons_succ]
                refine takeU (i := 14) rfl (by kernel_rfl) (by kernel_rfl) (by kernel_rfl) (fun _ _ _ h => h) (by kernel_rfl) hHeld ?_
                try simp only [Act.put, List.setIfInBounds_toArray, List.set_cons_zero, List.set_cons_succ]
                refine takeU (i := 15) rfl (by kernel_rfl) (by kernel_rfl) (by kernel_rfl) (fun _ _ _ h => h) (by kernel_rfl) hHeld ?_
                try simp only [Act.put, List.setIfInBounds_toArray, List.set_cons_zero, List.set_cons_succ]
                refine takeU (i := 16) rfl (by kernel_rfl) (by kernel_rfl) (by kernel_rfl) (fun _ _ _ h => h) (by kernel_rfl) hHeld ?_
                try simp only [Act.put, List.setIfInBounds_toArray, List.set_cons_zero, List.set_cons_succ]
                refine takeU (i := 17) rfl (by kernel_rfl) (by kernel_rfl) (by kernel_rfl) (fun _ _ _ h => h) (by kernel_rfl) hHeld ?_
                try simp only [Act.put, List.setIfInBounds_toArray, List.set_cons_zero, List.set_cons_succ]
                refine takeU (i := 18) rfl (by kernel_rfl) (by kernel_rfl) (by kernel_rfl) (fun _ _ _ h => h) (by kernel_rfl) hHeld ?_
                try simp only [Act.put, List.setIfInBounds_toArray, List.set_cons_zero, List.set_cons_succ]
                refine takeU (i := 19) rfl (by kernel_rfl) (by kernel_rfl) (by kernel_rfl) (fun _ _ _ h => h) (by kernel_rfl) hHeld ?_
                try simp only [Act.put, List.setIfInBounds_toArray, List.set_cons_zero, List.set_cons_succ]
                refine takeU (i := 20) rfl (by kernel_rfl) (by kernel_rfl) (by kernel_rfl) (fun _ _ _ h => h) (by kernel_rfl) hHeld ?_
                try simp only [Act.put, List.setIfInBounds_toArray, List.set_cons_zero, List.set_cons_succ]
                refine takeU (i := 21) rfl (by kernel_rfl) (by kernel_rfl) (by kernel_rfl) (fun _ _ _ h => h) (by kernel_rfl) hHeld ?_
                try simp only [Act.put, List.setIfInBounds_toArray, List.set_cons_zero, List.set_cons_succ]
                refine takeU (i := 22) rfl (by kernel_rfl) (by kernel_rfl) (by kernel_rfl) (fun _ _ _ h => h) (by kernel_rfl) hHeld ?_
                try simp only [Act.put, List.setIfInBounds_toArray, List.set_cons_zero, List.set_cons_succ]
                refine takeU (i := 23) rfl (by kernel_rfl) (by kernel_rfl) (by kernel_rfl) (fun _ _ _ h => h) (by kernel_rfl) hHeld ?_
                try simp only [Act.put, List.setIfInBounds_toArray, List.set_cons_zero, List.set_cons_succ]
                refine takeW (i := 24) (v := ?v25) rfl (by kernel_rfl) (by kernel_rfl) (by kernel_rfl) (fun _ _ _ h => h) (by kernel_rfl) hHeld ?hy25 ?rest25
                case hy25 => (intro w hSw; (try dsimp only at hSw); go_simp; (try with_reducible rfl))
                try simp only [Act.put, List.setIfInBounds_toArray, List.set_cons_zero, List.set_cons_succ]
                refine takeW (i := 25) (v := ?v26) rfl (by kernel_rfl) (by kernel_rfl) (by kernel_rfl) (fun _ _ _ h => h) (by kernel_rfl) hHeld ?hy26 ?rest26
                case hy26 => (intro w hSw; (try dsimp only at hSw); go_simp; (try with_reducible rfl))
                try simp only [Act.put, List.setIfInBounds_toArray, List.set_cons_zero, List.set_cons_succ]
                refine wpAnyH_done (by kernel_rfl) ?_ _
                go_wp2_with fail
                go_roundw
                case rel => exact ⟨1, by go_num, hk, HGD.out, hHeld.2.2.2.2.2.2.2.2.2.2.bel, hHeld.2.2.2.2.2.2.2.2.2.2.box⟩
                case measure => simp [intOf]; omega
              · have hm1 : ((m : Int) + 1 - 1) = (m : Int) := by omega
                have hm2 : (m : Int) < (L.length : Int) := by omega
                have hm3 : (0 : Int) ≤ (m : Int) := by omega
                have hwm : IntKind.i64.wrap (m : Int) = (m : Int) := IntWalk.i64_in (m : Int) (by omega)
                by_cases t3 : x.1.place ≤ prevP L (m + 1)
                · have hgf : g = false := by rw [← hgd, decide_eq_false (show ¬ prevP L (m + 1) < x.1.place by omega)]; simp
                  have hr : res = 1 := by rw [← HR.out]; unfold batE batB; rw [HG.out, hgf]; simp
                  subst hr
                  clear hgd
                  refine wp_region_held_drew (S := (fun w => w.cell? ⟨wr.heap.size, 0, none⟩ = some (.int .i64 x.1.place) ∧ w.cell? ⟨wr.heap.size, 1, none⟩ = some (.int .i64 x.1.time) ∧ w.cell? ⟨wr.heap.size, 2, none⟩ = some (.bool x.1.bare) ∧ w.cell? ⟨wr.heap.size, 3, none⟩ = some (.string x.1.key) ∧ w.cell? ⟨wr.heap.size, 4, none⟩ = some (.bool x.1.gone) ∧ w.cell? ⟨wr.heap.size, 5, none⟩ = some (.string x.1.value) ∧ w.cell? ⟨wr.heap.size, 6, none⟩ = some (.slice x.2.1 x.1.heads.length x.2.2) ∧ w.cell? ⟨W.heap.size, 1, none⟩ = some (.int .i64 span) ∧ w.cell? ⟨W.heap.size, 5, none⟩ = some (.slice (some ⟨bb, off, none⟩) L.length c) ∧ w.cell? ⟨bb, off + m * 7, none⟩ = some (.int .i64 (prevP L (m + 1))) ∧ ChkS W wr bb #[.int .i64 base, .int .i64 span, .int .i64 prod, .int .i64 epoch, .int .i64 seq, .slice (some ⟨bb, off, none⟩) L.length c] w)) (by kernel_rfl) hSw (fun hHeld => ?_)
                  refine takeW (i := 0) (v := ?v27) rfl (by kernel_rfl) (by kernel_rfl) (by kernel_rfl) (fun _ _ _ h => h) (by kernel_rfl) hHeld ?hy27 ?rest27
                  case hy27 => (intro w hSw; (try dsimp only at hSw); go_simp; (try with_reducible rfl))
                  try simp only [Act.put, List.setIfInBounds_toArray, List.set_cons_zero, List.set_cons_succ]
                  refine wpAnyH_ready (rs := [1]) (by kernel_rfl) (by simp) ?_
                  refine consL rfl (by kernel_rfl) (fun K hK => ?_) AllReadyH.nil
                  go_simp
                  (with_reducible refine (hcc _ hHeld).mono ?_)
                  rintro e w2 ⟨rfl, hb2⟩
                  refine hK.out _ _ (chkS_later hHeld hb2) (fun hHeld => ?_)
                  clear hK K
                  try simp only [Act.put, List.setIfInBounds_toArray, List.set_cons_zero, List.set_cons_succ]
                  refine takeW (i := 2) (v := ?v28) rfl (by kernel_rfl) (by kernel_rfl) (by kernel_rfl) (fun _ _ _ h => h) (by kernel_rfl) hHeld ?hy28 ?rest28
                  case hy28 => (intro w hSw; (try dsimp only at hSw); go_simp; (try with_reducible rfl))
                  try simp only [Act.put, List.setIfInBounds_toArray, List.set_cons_zero, List.set_cons_succ]
                  refine takeW (i := 3) (v := ?v29) rfl (by kernel_rfl) (by kernel_rfl) (by kernel_rfl) (fun _ _ _ h => h) (by kernel_rfl) hHeld ?hy29 ?rest29
                  case hy29 => (intro w hSw; (try dsimp only at hSw); go_simp; (try with_reducible rfl))
                  try simp only [Act.put, List.setIfInBounds_toArray, List.set_cons_zero, List.set_cons_succ]
                  refine takeW (i := 4) (v := ?v30) rfl (by kernel_rfl) (by kernel_rfl) (by kernel_rfl) (fun _ _ _ h => h) (by kernel_rfl) hHeld ?hy30 ?rest30
                  case hy30 => (intro w hSw; (try dsimp only at hSw); go_simp; (try with_reducible rfl))
                  try simp only [Act.put, List.setIfInBounds_toArray, List.set_cons_zero, List.set_cons_succ]
                  refine takeW (i := 5) (v := ?v31) rfl (by kernel_rfl) (by kernel_rfl) (by kernel_rfl) (fun _ _ _ h => h) (by kernel_rfl) hHeld ?hy31 ?rest31
                  case hy31 => (intro w hSw; (try dsimp only at hSw); go_simp; (try with_reducible rfl))
                  try simp only [Act.put, List.setIfInBounds_toArray, List.set_cons_zero, List.set_cons_succ]
                  refine takeW (i := 6) (v := ?v32) rfl (by kernel_rfl) (by kernel_rfl) (by kernel_rfl) (fun _ _ _ h => h) (by kernel_rfl) hHeld ?hy32 ?rest32
                  case hy32 => (intro w hSw; (try dsimp only at hSw); go_simp; (try with_reducible rfl))
                  try simp only [Act.put, List.setIfInBounds_toArray, List.set_cons_zero, List.set_cons_succ]
                  refine takeW (i := 7) (v := ?v33) rfl (by kernel_rfl) (by kernel_rfl) (by kernel_rfl) (fun _ _ _ h => h) (by kernel_rfl) hHeld ?hy33 ?rest33
                  case hy33 => (intro w hSw; (try dsimp only at hSw); go_simp; (try with_reducible rfl))
                  try simp only [Act.put, List.setIfInBounds_toArray, List.set_cons_zero, List.set_cons_succ]
                  refine takeW (i := 8) (v := ?v34) rfl (by kernel_rfl) (by kernel_rfl) (by kernel_rfl) (fun _ _ _ h => h) (by kernel_rfl) hHeld ?hy34 ?rest34
                  case hy34 => (intro w hSw; (try dsimp only at hSw); go_simp; (try with_reducible rfl))
                  try simp only [Act.put, List.setIfInBounds_toArray, List.set_cons_zero, List.set_cons_succ]
                  refine takeW (i := 9) (v := ?v35) rfl (by kernel_rfl) (by kernel_rfl) (by kernel_rfl) (fun _ _ _ h => h) (by kernel_rfl) hHeld ?hy35 ?rest35
                  case hy35 => (intro w hSw; (try dsimp only at hSw); go_simp; (try with_reducible rfl))
                  try simp only [Act.put, List.setIfInBounds_toArray, List.set_cons_zero, List.set_cons_succ]
                  refine takeW (i := 10) (v := ?v36) rfl (by kernel_rfl) (by kernel_rfl) (by kernel_rfl) (fun _ _ _ h => h) (by kernel_rfl) hHeld ?hy36 ?rest36
                  case hy36 => (intro w hSw; (try dsimp only at hSw); go_simp; (try with_reducible rfl))
                  try simp only [Act.put, List.setIfInBounds_toArray, List.set_cons_zero, List.set_cons_succ]
                  refine takeW (i := 11) (v := ?v37) rfl (by kernel_rfl) (by kernel_rfl) (by kernel_rfl) (fun _ _ _ h => h) (by kernel_rfl) hHeld ?hy37 ?rest37
                  case hy37 => (intro w hSw; (try dsimp only at hSw); go_simp; (try with_reducible rfl))
                  try simp only [Act.put, List.setIfInBounds_toArray, List.set_cons_zero, List.set_cons_succ]
                  refine takeW (i := 12) (v := ?v38) rfl (by kernel_rfl) (by kernel_rfl) (by kernel_rfl) (fun _ _ _ h => h) (by kernel_rfl) hHeld ?hy38 ?rest38
                  case hy38 => (intro w hSw; (try dsimp only at hSw); go_simp; (try with_reducible rfl))
                  try simp only [Act.put, List.setIfInBounds_toArray, List.set_cons_zero, List.set_cons_succ]
                  refine takeW (i := 13) (v := ?v39) rfl (by kernel_rfl) (by kernel_rfl) (by kernel_rfl) (fun _ _ _ h => h) (by kernel_rfl) hHeld ?hy39 ?rest39
                  case hy39 => (intro w hSw; (try dsimp only at hSw); go_simp; (try with_reducible rfl))
                  try simp only [Act.put, List.setIfInBounds_toArray, List.set_cons_zero, List.set_cons_succ]
                  refine takeW (i := 14) (v := ?v40) rfl (by kernel_rfl) (by kernel_rfl) (by kernel_rfl) (fun _ _ _ h => h) (by kernel_rfl) hHeld ?hy40 ?rest40
                  case hy40 => (intro w hSw; (try dsimp only at hSw); go_simp; (try with_reducible rfl))
                  try simp only [Act.put, List.setIfInBounds_toArray, List.set_cons_zero, List.set_cons_succ]
                  refine takeW (i := 15) (v := ?v41) rfl (by kernel_rfl) (by kernel_rfl) (by kernel_rfl) (fun _ _ _ h => h) (by kernel_rfl) hHeld ?hy41 ?rest41
                  case hy41 => (intro w hSw; (try dsimp only at hSw); go_simp; (try with_reducible rfl))
                  try simp only [Act.put, List.setIfInBounds_toArray, List.set_cons_zero, List.set_cons_succ]
                  refine takeW (i := 16) (v := ?v42) rfl (by kernel_rfl) (by kernel_rfl) (by kernel_rfl) (fun _ _ _ h => h) (by kernel_rfl) hHeld ?hy42 ?rest42
                  case hy42 => (intro w hSw; (try dsimp only at hSw); go_simp; (try with_reducible rfl))
                  try simp only [Act.put, List.setIfInBounds_toArray, List.set_cons_zero, List.set_cons_succ]
                  refine takeW (i := 17) (v := ?v43) rfl (by kernel_rfl) (by kernel_rfl) (by kernel_rfl) (fun _ _ _ h => h) (by kernel_rfl) hHeld ?hy43 ?rest43
                  case hy43 => (intro w hSw; (try dsimp only at hSw); go_simp; (try with_reducible rfl))
                  try simp only [Act.put, List.setIfInBounds_toArray, List.set_cons_zero, List.set_cons_succ]
                  refine takeW (i := 18) (v := ?v44) rfl (by kernel_rfl) (by kernel_rfl) (by kernel_rfl) (fun _ _ _ h => h) (by kernel_rfl) hHeld ?hy44 ?rest44
                  case hy44 => (intro w hSw; (try dsimp only at hSw); go_simp; (try with_reducible rfl))
                  try simp only [Act.put, List.setIfInBounds_toArray, List.set_cons_zero, List.set_cons_succ]
                  refine takeW (i := 19) (v := ?v45) rfl (by kernel_rfl) (by kernel_rfl) (by kernel_rfl) (fun _ _ _ h => h) (by kernel_rfl) hHeld ?hy45 ?rest45
                  case hy45 => (intro w hSw; (try dsimp only at hSw); go_simp; (try with_reducible rfl))
                  try simp only [Act.put, List.setIfInBounds_toArray, List.set_cons_zero, List.set_cons_succ]
                  refine takeW (i := 20) (v := ?v46) rfl (by kernel_rfl) (by kernel_rfl) (by kernel_rfl) (fun _ _ _ h => h) (by kernel_rfl) hHeld ?hy46 ?rest46
                  case hy46 => (intro w hSw; (try dsimp only at hSw); go_simp; (try with_reducible rfl))
                  try simp only [Act.put, List.setIfInBounds_toArray, List.set_cons_zero, List.set_cons_succ]
                  refine takeW (i := 21) (v := ?v47) rfl (by kernel_rfl) (by kernel_rfl) (by kernel_rfl) (fun _ _ _ h => h) (by kernel_rfl) hHeld ?hy47 ?rest47
                  case hy47 => (intro w hSw; (try dsimp only at hSw); go_simp; (try with_reducible rfl))
                  try simp only [Act.put, List.setIfInBounds_toArray, List.set_cons_zero, List.set_cons_succ]
                  refine takeW (i := 22) (v := ?v48) rfl (by kernel_rfl) (by kernel_rfl) (by kernel_rfl) (fun _ _ _ h => h) (by kernel_rfl) hHeld ?hy48 ?rest48
                  case hy48 => (intro w hSw; (try dsimp only at hSw); go_simp; (try with_reducible rfl))
                  try simp only [Act.put, List.setIfInBounds_toArray, List.set_cons_zero, List.set_cons_succ]
                  refine takeW (i := 23) (v := ?v49) rfl (by kernel_rfl) (by kernel_rfl) (by kernel_rfl) (fun _ _ _ h => h) (by kernel_rfl) hHeld ?hy49 ?rest49
                  case hy49 => (intro w hSw; (try dsimp only at hSw); go_simp; (try with_reducible rfl))
                  try simp only [Act.put, List.setIfInBounds_toArray, List.set_cons_zero, List.set_cons_succ]
                  refine takeW (i := 24) (v := ?v50) rfl (by kernel_rfl) (by kernel_rfl) (by kernel_rfl) (fun _ _ _ h => h) (by kernel_rfl) hHeld ?hy50 ?rest50
                  case hy50 => (intro w hSw; (try dsimp only at hSw); go_simp; (try with_reducible rfl))
                  try simp only [Act.put, List.setIfInBounds_toArray, List.set_cons_zero, List.set_cons_succ]
                  refine takeW (i := 25) (v := ?v51) rfl (by kernel_rfl) (by kernel_rfl) (by kernel_rfl) (fun _ _ _ h => h) (by kernel_rfl) hHeld ?hy51 ?rest51
                  case hy51 => (intro w hSw; (try dsimp only at hSw); go_simp; (try with_reducible rfl))
                  try simp only [Act.put, List.setIfInBounds_toArray, List.set_cons_zero, List.set_cons_succ]
                  refine wpAnyH_done (by kernel_rfl) ?_ _
                  go_wp2_with fail
                  go_ret
                  exact ⟨rfl, hHeld.2.2.2.2.2.2.2.2.2.2.bel⟩
                · have t3' : prevP L (m + 1) < x.1.place := by omega
                  have d3 : decide (x.1.place ≤ prevP L (m + 1)) = false := decide_eq_false t3
                  have HGD : Hid (goodL span (prevP L (m + 1 + 1)) (L.drop (m + 1 + 1)) = g) := Lib.hid (by
                    rw [t1, decide_eq_true t2', decide_eq_true t3'] at hgd
                    have e9 : prevP L (m + 1 + 1) = x.1.place := by show (match L[m + 1]? with | some x => x.1.place | none => -1) = _; rw [hx]
                    rw [e9]
                    simpa using hgd)
                  clear hgd
                  refine wp_region_held_drew (S := (fun w => w.cell? ⟨wr.heap.size, 0, none⟩ = some (.int .i64 x.1.place) ∧ w.cell? ⟨wr.heap.size, 1, none⟩ = some (.int .i64 x.1.time) ∧ w.cell? ⟨wr.heap.size, 2, none⟩ = some (.bool x.1.bare) ∧ w.cell? ⟨wr.heap.size, 3, none⟩ = some (.string x.1.key) ∧ w.cell? ⟨wr.heap.size, 4, none⟩ = some (.bool x.1.gone) ∧ w.cell? ⟨wr.heap.size, 5, none⟩ = some (.string x.1.value) ∧ w.cell? ⟨wr.heap.size, 6, none⟩ = some (.slice x.2.1 x.1.heads.length x.2.2) ∧ w.cell? ⟨W.heap.size, 1, none⟩ = some (.int .i64 span) ∧ w.cell? ⟨W.heap.size, 5, none⟩ = some (.slice (some ⟨bb, off, none⟩) L.length c) ∧ w.cell? ⟨bb, off + m * 7, none⟩ = some (.int .i64 (prevP L (m + 1))) ∧ ChkS W wr bb #[.int .i64 base, .int .i64 span, .int .i64 prod, .int .i64 epoch, .int .i64 seq, .slice (some ⟨bb, off, none⟩) L.length c] w)) (by kernel_rfl) hSw (fun hHeld => ?_)
                  refine takeW (i := 0) (v := ?v52) rfl (by kernel_rfl) (by kernel_rfl) (by kernel_rfl) (fun _ _ _ h => h) (by kernel_rfl) hHeld ?hy52 ?rest52
                  case hy52 => (intro w hSw; (try dsimp only at hSw); go_simp; (try with_reducible rfl))
                  try simp only [Act.put, List.setIfInBounds_toArray, List.set_cons_zero, List.set_cons_succ]
                  refine wpAnyH_ready (rs := [1]) (by kernel_rfl) (by simp) ?_
                  refine consL rfl (by kernel_rfl) (fun K hK => ?_) AllReadyH.nil
                  go_simp
                  (with_reducible refine (hcc _ hHeld).mono ?_)
                  rintro e w2 ⟨rfl, hb2⟩
                  refine hK.out _ _ (chkS_later hHeld hb2) (fun hHeld => ?_)
                  clear hK K
                  try simp only [Act.put, List.setIfInBounds_toArray, List.set_cons_zero, List.set_cons_succ]
                  refine takeW (i := 2) (v := ?v53) rfl (by kernel_rfl) (by kernel_rfl) (by kernel_rfl) (fun _ _ _ h => h) (by kernel_rfl) hHeld ?hy53 ?rest53
                  case hy53 => (intro w hSw; (try dsimp only at hSw); go_simp; (try with_reducible rfl))
                  try simp only [Act.put, List.setIfInBounds_toArray, List.set_cons_zero, List.set_cons_succ]
                  refine takeW (i := 3) (v := ?v54) rfl (by kernel_rfl) (by kernel_rfl) (by kernel_rfl) (fun _ _ _ h => h) (by kernel_rfl) hHeld ?hy54 ?rest54
                  case hy54 => (intro w hSw; (try dsimp only at hSw); go_simp; (try with_reducible rfl))
                  try simp only [Act.put, List.setIfInBounds_toArray, List.set_cons_zero, List.set_cons_succ]
                  refine takeW (i := 4) (v := ?v55) rfl (by kernel_rfl) (by kernel_rfl) (by kernel_rfl) (fun _ _ _ h => h) (by kernel_rfl) hHeld ?hy55 ?rest55
                  case hy55 => (intro w hSw; (try dsimp only at hSw); go_simp; (try with_reducible rfl))
                  try simp only [Act.put, List.setIfInBounds_toArray, List.set_cons_zero, List.set_cons_succ]
                  refine takeW (i := 5) (v := ?v56) rfl (by kernel_rfl) (by kernel_rfl) (by kernel_rfl) (fun _ _ _ h => h) (by kernel_rfl) hHeld ?hy56 ?rest56
                  case hy56 => (intro w hSw; (try dsimp only at hSw); go_simp; (try with_reducible rfl))
                  try simp only [Act.put, List.setIfInBounds_toArray, List.set_cons_zero, List.set_cons_succ]
                  refine takeW (i := 6) (v := ?v57) rfl (by kernel_rfl) (by kernel_rfl) (by kernel_rfl) (fun _ _ _ h => h) (by kernel_rfl) hHeld ?hy57 ?rest57
                  case hy57 => (intro w hSw; (try dsimp only at hSw); go_simp; (try with_reducible rfl))
                  try simp only [Act.put, List.setIfInBounds_toArray, List.set_cons_zero, List.set_cons_succ]
                  refine takeW (i := 7) (v := ?v58) rfl (by kernel_rfl) (by kernel_rfl) (by kernel_rfl) (fun _ _ _ h => h) (by kernel_rfl) hHeld ?hy58 ?rest58
                  case hy58 => (intro w hSw; (try dsimp only at hSw); go_simp; (try with_reducible rfl))
                  try simp only [Act.put, List.setIfInBounds_toArray, List.set_cons_zero, List.set_cons_succ]
                  refine takeW (i := 8) (v := ?v59) rfl (by kernel_rfl) (by kernel_rfl) (by kernel_rfl) (fun _ _ _ h => h) (by kernel_rfl) hHeld ?hy59 ?rest59
                  case hy59 => (intro w hSw; (try dsimp only at hSw); go_simp; (try with_reducible rfl))
                  try simp only [Act.put, List.setIfInBounds_toArray, List.set_cons_zero, List.set_cons_succ]
                  refine takeW (i := 9) (v := ?v60) rfl (by kernel_rfl) (by kernel_rfl) (by kernel_rfl) (fun _ _ _ h => h) (by kernel_rfl) hHeld ?hy60 ?rest60
                  case hy60 => (intro w hSw; (try dsimp only at hSw); go_simp; (try with_reducible rfl))
                  try simp only [Act.put, List.setIfInBounds_toArray, List.set_cons_zero, List.set_cons_succ]
                  refine takeW (i := 10) (v := ?v61) rfl (by kernel_rfl) (by kernel_rfl) (by kernel_rfl) (fun _ _ _ h => h) (by kernel_rfl) hHeld ?hy61 ?rest61
                  case hy61 => (intro w hSw; (try dsimp only at hSw); go_simp; (try with_reducible rfl))
                  try simp only [Act.put, List.setIfInBounds_toArray, List.set_cons_zero, List.set_cons_succ]
                  refine takeW (i := 11) (v := ?v62) rfl (by kernel_rfl) (by kernel_rfl) (by kernel_rfl) (fun _ _ _ h => h) (by kernel_rfl) hHeld ?hy62 ?rest62
                  case hy62 => (intro w hSw; (try dsimp only at hSw); go_simp; (try with_reducible rfl))
                  try simp only [Act.put, List.setIfInBounds_toArray, List.set_cons_zero, List.set_cons_succ]
                  refine takeW (i := 12) (v := ?v63) rfl (by kernel_rfl) (by kernel_rfl) (by kernel_rfl) (fun _ _ _ h => h) (by kernel_rfl) hHeld ?hy63 ?rest63
                  case hy63 => (intro w hSw; (try dsimp only at hSw); go_simp; (try with_reducible rfl))
                  try simp only [Act.put, List.setIfInBounds_toArray, List.set_cons_zero, List.set_cons_succ]
                  refine takeW (i := 13) (v := ?v64) rfl (by kernel_rfl) (by kernel_rfl) (by kernel_rfl) (fun _ _ _ h => h) (by kernel_rfl) hHeld ?hy64 ?rest64
                  case hy64 => (intro w hSw; (try dsimp only at hSw); go_simp; (try with_reducible rfl))
                  try simp only [Act.put, List.setIfInBounds_toArray, List.set_cons_zero, List.set_cons_succ]
                  refine takeW (i := 14) (v := ?v65) rfl (by kernel_rfl) (by kernel_rfl) (by kernel_rfl) (fun _ _ _ h => h) (by kernel_rfl) hHeld ?hy65 ?rest65
                  case hy65 => (intro w hSw; (try dsimp only at hSw); go_simp; (try with_reducible rfl))
                  try simp only [Act.put, List.setIfInBounds_toArray, List.set_cons_zero, List.set_cons_succ]
                  refine takeW (i := 15) (v := ?v66) rfl (by kernel_rfl) (by kernel_rfl) (by kernel_rfl) (fun _ _ _ h => h) (by kernel_rfl) hHeld ?hy66 ?rest66
                  case hy66 => (intro w hSw; (try dsimp only at hSw); go_simp; (try with_reducible rfl))
                  try simp only [Act.put, List.setIfInBounds_toArray, List.set_cons_zero, List.set_cons_succ]
                  refine takeW (i := 16) (v := ?v67) rfl (by kernel_rfl) (by kernel_rfl) (by kernel_rfl) (fun _ _ _ h => h) (by kernel_rfl) hHeld ?hy67 ?rest67
                  case hy67 => (intro w hSw; (try dsimp only at hSw); go_simp; (try with_reducible rfl))
                  try simp only [Act.put, List.setIfInBounds_toArray, List.set_cons_zero, List.set_cons_succ]
                  refine takeW (i := 17) (v := ?v68) rfl (by kernel_rfl) (by kernel_rfl) (by kernel_rfl) (fun _ _ _ h => h) (by kernel_rfl) hHeld ?hy68 ?rest68
                  case hy68 => (intro w hSw; (try dsimp only at hSw); go_simp; (try with_reducible rfl))
                  try simp only [Act.put, List.setIfInBounds_toArray, List.set_cons_zero, List.set_cons_succ]
                  refine takeW (i := 18) (v := ?v69) rfl (by kernel_rfl) (by kernel_rfl) (by kernel_rfl) (fun _ _ _ h => h) (by kernel_rfl) hHeld ?hy69 ?rest69
                  case hy69 => (intro w hSw; (try dsimp only at hSw); go_simp; (try with_reducible rfl))
                  try simp only [Act.put, List.setIfInBounds_toArray, List.set_cons_zero, List.set_cons_succ]
                  refine takeW (i := 19) (v := ?v70) rfl (by kernel_rfl) (by kernel_rfl) (by kernel_rfl) (fun _ _ _ h => h) (by kernel_rfl) hHeld ?hy70 ?rest70
                  case hy70 => (intro w hSw; (try dsimp only at hSw); go_simp; (try with_reducible rfl))
                  try simp only [Act.put, List.setIfInBounds_toArray, List.set_cons_zero, List.set_cons_succ]
                  refine takeW (i := 20) (v := ?v71) rfl (by kernel_rfl) (by kernel_rfl) (by kernel_rfl) (fun _ _ _ h => h) (by kernel_rfl) hHeld ?hy71 ?rest71
                  case hy71 => (intro w hSw; (try dsimp only at hSw); go_simp; (try with_reducible rfl))
                  try simp only [Act.put, List.setIfInBounds_toArray, List.set_cons_zero, List.set_cons_succ]
                  refine takeW (i := 21) (v := ?v72) rfl (by kernel_rfl) (by kernel_rfl) (by kernel_rfl) (fun _ _ _ h => h) (by kernel_rfl) hHeld ?hy72 ?rest72
                  case hy72 => (intro w hSw; (try dsimp only at hSw); go_simp; (try with_reducible rfl))
                  try simp only [Act.put, List.setIfInBounds_toArray, List.set_cons_zero, List.set_cons_succ]
                  refine takeW (i := 22) (v := ?v73) rfl (by kernel_rfl) (by kernel_rfl) (by kernel_rfl) (fun _ _ _ h => h) (by kernel_rfl) hHeld ?hy73 ?rest73
                  case hy73 => (intro w hSw; (try dsimp only at hSw); go_simp; (try with_reducible rfl))
                  try simp only [Act.put, List.setIfInBounds_toArray, List.set_cons_zero, List.set_cons_succ]
                  refine takeW (i := 23) (v := ?v74) rfl (by kernel_rfl) (by kernel_rfl) (by kernel_rfl) (fun _ _ _ h => h) (by kernel_rfl) hHeld ?hy74 ?rest74
                  case hy74 => (intro w hSw; (try dsimp only at hSw); go_simp; (try with_reducible rfl))
                  try simp only [Act.put, List.setIfInBounds_toArray, List.set_cons_zero, List.set_cons_succ]
                  refine takeW (i := 24) (v := ?v75) rfl (by kernel_rfl) (by kernel_rfl) (by kernel_rfl) (fun _ _ _ h => h) (by kernel_rfl) hHeld ?hy75 ?rest75
                  case hy75 => (intro w hSw; (try dsimp only at hSw); go_simp; (try with_reducible rfl))
                  try simp only [Act.put, List.setIfInBounds_toArray, List.set_cons_zero, List.set_cons_succ]
                  refine takeW (i := 25) (v := ?v76) rfl (by kernel_rfl) (by kernel_rfl) (by kernel_rfl) (fun _ _ _ h => h) (by kernel_rfl) hHeld ?hy76 ?rest76
                  case hy76 => (intro w hSw; (try dsimp only at hSw); go_simp; (try with_reducible rfl))
                  try simp only [Act.put, List.setIfInBounds_toArray, List.set_cons_zero, List.set_cons_succ]
                  refine wpAnyH_done (by kernel_rfl) ?_ _
                  go_wp2_with fail
                  go_roundw
                  case rel => exact ⟨m + 1 + 1, by go_num, hk, HGD.out, hHeld.2.2.2.2.2.2.2.2.2.2.bel, hHeld.2.2.2.2.2.2.2.2.2.2.box⟩
                  case measure => simp [intOf]; omega
          · have e1 : recE x.1 = 1 := by unfold recE; rw [if_neg t1]
            rw [e1] at hcc
            have hgf : g = false := by rw [← hgd]; simp [t1]
            have hr : res = 1 := by rw [← HR.out]; unfold batE batB; rw [HG.out, hgf]; simp
            subst hr
            clear hgd hqk
            refine wp_region_held_drew (S := (fun w => w.cell? ⟨wr.heap.size, 0, none⟩ = some (.int .i64 x.1.place) ∧ w.cell? ⟨wr.heap.size, 1, none⟩ = some (.int .i64 x.1.time) ∧ w.cell? ⟨wr.heap.size, 2, none⟩ = some (.bool x.1.bare) ∧ w.cell? ⟨wr.heap.size, 3, none⟩ = some (.string x.1.key) ∧ w.cell? ⟨wr.heap.size, 4, none⟩ = some (.bool x.1.gone) ∧ w.cell? ⟨wr.heap.size, 5, none⟩ = some (.string x.1.value) ∧ w.cell? ⟨wr.heap.size, 6, none⟩ = some (.slice x.2.1 x.1.heads.length x.2.2) ∧ w.cell? ⟨W.heap.size, 1, none⟩ = some (.int .i64 span) ∧ w.cell? ⟨W.heap.size, 5, none⟩ = some (.slice (some ⟨bb, off, none⟩) L.length c) ∧ w.cell? ⟨bb, qo, none⟩ = some (.int .i64 qv) ∧ ChkS W wr bb #[.int .i64 base, .int .i64 span, .int .i64 prod, .int .i64 epoch, .int .i64 seq, .slice (some ⟨bb, off, none⟩) L.length c] w)) (by kernel_rfl) hSw (fun hHeld => ?_)
            refine takeW (i := 0) (v := ?v77) rfl (by kernel_rfl) (by kernel_rfl) (by kernel_rfl) (fun _ _ _ h => h) (by kernel_rfl) hHeld ?hy77 ?rest77
            case hy77 => (intro w hSw; (try dsimp only at hSw); go_simp; (try with_reducible rfl))
            try simp only [Act.put, List.setIfInBounds_toArray, List.set_cons_zero, List.set_cons_succ]
            refine wpAnyH_ready (rs := [1]) (by kernel_rfl) (by simp) ?_
            refine consL rfl (by kernel_rfl) (fun K hK => ?_) AllReadyH.nil
            go_simp
            (with_reducible refine (hcc _ hHeld).mono ?_)
            rintro e w2 ⟨rfl, hb2⟩
            refine hK.out _ _ (chkS_later hHeld hb2) (fun hHeld => ?_)
            clear hK K
            try simp only [Act.put, List.setIfInBounds_toArray, List.set_cons_zero, List.set_cons_succ]
            refine takeW (i := 2) (v := ?v78) rfl (by kernel_rfl) (by kernel_rfl) (by kernel_rfl) (fun _ _ _ h => h) (by kernel_rfl) hHeld ?hy78 ?rest78
            case hy78 => (intro w hSw; (try dsimp only at hSw); go_simp; (try with_reducible rfl))
            try simp only [Act.put, List.setIfInBounds_toArray, List.set_cons_zero, List.set_cons_succ]
            refine takeW (i := 3) (v := ?v79) rfl (by kernel_rfl) (by kernel_rfl) (by kernel_rfl) (fun _ _ _ h => h) (by kernel_rfl) hHeld ?hy79 ?rest79
            case hy79 => (intro w hSw; (try dsimp only at hSw); go_simp; (try with_reducible rfl))
            try simp only [Act.put, List.setIfInBounds_toArray, List.set_cons_zero, List.set_cons_succ]
            refine takeU (i := 4) rfl (by kernel_rfl) (by kernel_rfl) (by kernel_rfl) (fun _ _ _ h => h) (by kernel_rfl) hHeld ?_
            try simp only [Act.put, List.setIfInBounds_toArray, List.set_cons_zero, List.set_cons_succ]
            refine takeU (i := 5) rfl (by kernel_rfl) (by kernel_rfl) (by kernel_rfl) (fun _ _ _ h => h) (by kernel_rfl) hHeld ?_
            try simp only [Act.put, List.setIfInBounds_toArray, List.set_cons_zero, List.set_cons_succ]
            refine takeU (i := 6) rfl (by kernel_rfl) (by kernel_rfl) (by kernel_rfl) (fun _ _ _ h => h) (by kernel_rfl) hHeld ?_
            try simp only [Act.put, List.setIfInBounds_toArray, List.set_cons_zero, List.set_cons_succ]
            refine takeU (i := 7) rfl (by kernel_rfl) (by kernel_rfl) (by kernel_rfl) (fun _ _ _ h => h) (by kernel_rfl) hHeld ?_
            try simp only [Act.put, List.setIfInBounds_toArray, List.set_cons_zero, List.set_cons_succ]
            refine takeU (i := 8) rfl (by kernel_rfl) (by kernel_rfl) (by kernel_rfl) (fun _ _ _ h => h) (by kernel_rfl) hHeld ?_
            try simp only [Act.put, List.setIfInBounds_toArray, List.set_cons_zero, List.set_cons_succ]
            refine takeW (i := 9) (v := ?v80) rfl (by kernel_rfl) (by kernel_rfl) (by kernel_rfl) (fun _ _ _ h => h) (by kernel_rfl) hHeld ?hy80 ?rest80
            case hy80 => (intro w hSw; (try dsimp only at hSw); go_simp; (try with_reducible rfl))
            try simp only [Act.put, List.setIfInBounds_toArray, List.set_cons_zero, List.set_cons_succ]
            refine takeW (i := 10) (v := ?v81) rfl (by kernel_rfl) (by kernel_rfl) (by kernel_rfl) (fun _ _ _ h => h) (by kernel_rfl) hHeld ?hy81 ?rest81
            case hy81 => (intro w hSw; (try dsimp only at hSw); go_simp; (try with_reducible rfl))
            try simp only [Act.put, List.setIfInBounds_toArray, List.set_cons_zero, List.set_cons_succ]
            refine takeU (i := 11) rfl (by kernel_rfl) (by kernel_rfl) (by kernel_rfl) (fun _ _ _ h => h) (by kernel_rfl) hHeld ?_
            try simp only [Act.put, List.setIfInBounds_toArray, List.set_cons_zero, List.set_cons_succ]
            refine takeU (i := 12) rfl (by kernel_rfl) (by kernel_rfl) (by kernel_rfl) (fun _ _ _ h => h) (by kernel_rfl) hHeld ?_
            try simp only [Act.put, List.setIfInBounds_toArray, List.set_cons_zero, List.set_cons_succ]
            refine takeU (i := 13) rfl (by kernel_rfl) (by kernel_rfl) (by kernel_rfl) (fun _ _ _ h => h) (by kernel_rfl) hHeld ?_
            try simp only [Act.put, List.setIfInBounds_toArray, List.set_cons_zero, List.set_cons_succ]
            refine takeU (i := 14) rfl (by kernel_rfl) (by kernel_rfl) (by kernel_rfl) (fun _ _ _ h => h) (by kernel_rfl) hHeld ?_
            try simp only [Act.put, List.setIfInBounds_toArray, List.set_cons_zero, List.set_cons_succ]
            refine takeU (i := 15) rfl (by kernel_rfl) (by kernel_rfl) (by kernel_rfl) (fun _ _ _ h => h) (by kernel_rfl) hHeld ?_
            try simp only [Act.put, List.setIfInBounds_toArray, List.set_cons_zero, List.set_cons_succ]
            refine takeU (i := 16) rfl (by kernel_rfl) (by kernel_rfl) (by kernel_rfl) (fun _ _ _ h => h) (by kernel_rfl) hHeld ?_
            try simp only [Act.put, List.setIfInBounds_toArray, List.set_cons_zero, List.set_cons_succ]
            refine takeU (i := 17) rfl (by kernel_rfl) (by kernel_rfl) (by kernel_rfl) (fun _ _ _ h => h) (by kernel_rfl) hHeld ?_
            try simp only [Act.put, List.setIfInBounds_toArray, List.set_cons_zero, List.set_cons_succ]
            refine takeU (i := 18) rfl (by kernel_rfl) (by kernel_rfl) (by kernel_rfl) (fun _ _ _ h => h) (by kernel_rfl) hHeld ?_
            try simp only [Act.put, List.setIfInBounds_toArray, List.set_cons_zero, List.set_cons_succ]
            refine takeU (i := 19) rfl (by kernel_rfl) (by kernel_rfl) (by kernel_rfl) (fun _ _ _ h => h) (by kernel_rfl) hHeld ?_
            try simp only [Act.put, List.setIfInBounds_toArray, List.set_cons_zero, List.set_cons_succ]
            refine takeU (i := 20) rfl (by kernel_rfl) (by kernel_rfl) (by kernel_rfl) (fun _ _ _ h => h) (by kernel_rfl) hHeld ?_
            try simp only [Act.put, List.setIfInBounds_toArray, List.set_cons_zero, List.set_cons_succ]
            refine takeU (i := 21) rfl (by kernel_rfl) (by kernel_rfl) (by kernel_rfl) (fun _ _ _ h => h) (by kernel_rfl) hHeld ?_
            try simp only [Act.put, List.setIfInBounds_toArray, List.set_cons_zero, List.set_cons_succ]
            refine takeU (i := 22) rfl (by kernel_rfl) (by kernel_rfl) (by kernel_rfl) (fun _ _ _ h => h) (by kernel_rfl) hHeld ?_
            try simp only [Act.put, List.setIfInBounds_toArray, List.set_cons_zero, List.set_cons_succ]
            refine takeU (i := 23) rfl (by kernel_rfl) (by kernel_rfl) (by kernel_rfl) (fun _ _ _ h => h) (by kernel_rfl) hHeld ?_
            try simp only [Act.put, List.setIfInBounds_toArray, List.set_cons_zero, List.set_cons_succ]
            refine takeU (i := 24) rfl (by kernel_rfl) (by kernel_rfl) (by kernel_rfl) (fun _ _ _ h => h) (by kernel_rfl) hHeld ?_
            try simp only [Act.put, List.setIfInBounds_toArray, List.set_cons_zero, List.set_cons_succ]
            refine takeW (i := 25) (v := ?v82) rfl (by kernel_rfl) (by kernel_rfl) (by kernel_rfl) (fun _ _ _ h => h) (by kernel_rfl) hHeld ?hy82 ?rest82
            case hy82 => (intro w hSw; (try dsimp only at hSw); go_simp; (try with_reducible rfl))
            try simp only [Act.put, List.setIfInBounds_toArray, List.set_cons_zero, List.set_cons_succ]
            refine wpAnyH_done (by kernel_rfl) ?_ _
            go_wp2_with fail
            go_ret
            exact ⟨rfl, hHeld.2.2.2.2.2.2.2.2.2.2.bel⟩
        · have hke : k = L.length := by omega
          subst hke
          have hgt : g = true := by rw [← hgd, List.drop_length]; rfl
          subst hgt
          have hgL := HG.out
          rw [goodL_eq] at hgL
          simp only [Bool.and_eq_true, List.all_eq_true] at hgL
          have cb := rbody_c ⟨base, span, prod, epoch, seq⟩ A c L wr (h.below hbw) (by omega) HN.out (fun y hy => hgL.2 y hy)
          unfold bnC at cb
          have y0 := (hbb.cell 0).trans rfl
          have y1 := (hbb.cell 1).trans rfl
          have y2 := (hbb.cell 2).trans rfl
          have y3 := (hbb.cell 3).trans rfl
          have y4 := (hbb.cell 4).trans rfl
          have y5 := (hbb.cell 5).trans rfl
          simp only [List.getElem?_toArray, List.getElem?_cons_zero, List.getElem?_cons_succ] at y0 y1 y2 y3 y4 y5
          have hsz : (⟨(bodyL ⟨base, span, prod, epoch, seq⟩ L).toArray⟩ : ByteArray).size = (bodyL ⟨base, span, prod, epoch, seq⟩ L).length := by show (bodyL ⟨base, span, prod, epoch, seq⟩ L).toArray.size = _; simp
          have HBW := Lib.hid hbw
          have hll : L.length ≤ 50 := by omega
          clear hgd hgL hbb hbw
          by_cases q6 : (bodyL ⟨base, span, prod, epoch, seq⟩ L).length ≤ 60000
          · have hr : res = 0 := by rw [← HR.out]; unfold batE batB; rw [HN.out, HG.out, decide_eq_true hll, decide_eq_true q6]; rfl
            subst hr
            have q7 : ((⟨(bodyL ⟨base, span, prod, epoch, seq⟩ L).toArray⟩ : ByteArray).size : Int) ≤ 60000 := by rw [hsz]; omega
            clear hsz
            generalize (⟨(bodyL ⟨base, span, prod, epoch, seq⟩ L).toArray⟩ : ByteArray) = bd at *
            go_wp2_with fail
            (with_reducible refine cb.mono ?_)
            rintro e w2 ⟨rfl, hb2⟩
            have HB2 := Lib.hid (HBW.out.trans (hb2.mono HBW.out.size))
            clear hb2
            go_wp2
            go_ret
            exact ⟨rfl, HB2.out⟩
          · have hr : res = 1 := by rw [← HR.out]; unfold batE batB; rw [decide_eq_false q6]; simp
            subst hr
            have q7 : (60000 : Int) < ((⟨(bodyL ⟨base, span, prod, epoch, seq⟩ L).toArray⟩ : ByteArray).size : Int) := by rw [hsz]; omega
            clear hsz
            generalize (⟨(bodyL ⟨base, span, prod, epoch, seq⟩ L).toArray⟩ : ByteArray) = bd at *
            go_wp2_with fail
            (with_reducible refine cb.mono ?_)
            rintro e w2 ⟨rfl, hb2⟩
            have HB2 := Lib.hid (HBW.out.trans (hb2.mono HBW.out.size))
            clear hb2
            go_wp2
            go_ret
            exact ⟨rfl, HB2.out⟩
end Go.Proofs.YtdclkhbolmbnmaaDoor
