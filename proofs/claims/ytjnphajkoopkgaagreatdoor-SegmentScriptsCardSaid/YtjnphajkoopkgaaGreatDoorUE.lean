/- Merged texts. What each proves is told at its head. -/
import Derived.Test.YtjnphajkoopkgaaGreatDoorUC
import Derived.Test.YtjnphajkoopkgaaGreatDoorBld
import Derived.Test.YtjnphajkoopkgaaGreatDoorPTake
/- The program's Encode of a record by a contract. -/
namespace Go.Proofs.YtjnphajkoopkgaaGreatDoor
open Go.RowKit
set_option linter.unusedVariables false
theorem textG_list (t : ByteArray) : (textG t).data.toList = txt t := by simp [textG, txt]
theorem textG_size (t : ByteArray) : (textG t).size = (txt t).length := by rw [← textG_list]; rfl
theorem txt_le (t : ByteArray) : (txt t).length ≤ 10 + t.size := by rw [txt_len]; have := putL_len t.size; omega
theorem headsL_le : ∀ (hs : List Hd), hs.all okHead = true → (headsL hs).length ≤ hs.length * 2020
  | [], _ => by simp [headsL]
  | h :: hs, ha => by
    simp only [List.all_cons, Bool.and_eq_true] at ha
    have hk := ha.1
    simp only [okHead, decide_eq_true_eq] at hk
    have h1 := txt_le h.1
    have h2 := txt_le h.2
    have h3 := headsL_le hs ha.2
    rw [headsL_cons]
    simp only [List.length_append, List.length_cons]
    omega
theorem headsL_take_succ {hs : List Hd} {k : Nat} (hk : k < hs.length) : headsL (hs.take (k + 1)) = headsL (hs.take k) ++ (txt hs[k].1 ++ txt hs[k].2) := by
  rw [List.take_succ_eq_append_getElem hk, headsL_snoc]
/-- A builder, and what stands beside it. -/
structure EncAt (W : World) (cs : Array Value) (B b : Nat) (l : List UInt8) (w : World) : Prop where
  bld : Bld w B b l
  box : Box w W.heap.size 85 cs
  bel : Below W.heap.size W w
  lo : W.heap.size < B
  le : B ≤ w.heap.size
theorem BuilderAt.later {T e : TypeId} {B b : Nat} {p : Value} {bs : List Value} {w w' : World} (h : Lib.BuilderAt T e B b p bs w) (hb : Below w.heap.size w w') : Lib.BuilderAt T e B b p bs w' := by
  have hlt := h.lt
  obtain ⟨hB, v, hbk, hown, hne⟩ := h
  refine ⟨hB, v, (hb.block b hlt).trans hbk, ?_, hne⟩
  refine hown.kept (row := none) ⟨hb.os, hb.tape, hb.output, hb.size, fun k hk _ => hb.block k hk⟩ ?_
  cases v.ownBlock with
  | none => exact .inl rfl
  | some g => exact .inr (by simp)
theorem Bld.later {w w' : World} {B b : Nat} {l : List UInt8} (h : Bld w B b l) (hb : Below w.heap.size w w') : Bld w' B b l := by
  rcases h with h | h
  · exact .inl (BuilderAt.later h hb)
  · exact .inr (BuilderAt.later h hb)
theorem EncAt.later {W w w' : World} {cs : Array Value} {B b : Nat} {l : List UInt8} (h : EncAt W cs B b l w) (hb : Below w.heap.size w w') : EncAt W cs B b l w' :=
  ⟨h.bld.later hb, h.box.later hb, h.bel.trans (hb.mono h.bel.size), h.lo, Nat.le_trans h.le hb.size⟩
theorem Bld.lt {w : World} {B b : Nat} {l : List UInt8} (h : Bld w B b l) : b < w.heap.size := by
  rcases h with h | h
  · exact h.lt
  · exact h.lt
theorem EncAt.start {W w : World} {cs : Array Value} (hbox : Box w W.heap.size 85 cs) (hbel : Below W.heap.size W w) : EncAt W cs w.heap.size w.heap.size [] (w.alloc (.cells #[.pointer none, .slice none 0 0] 158)) :=
  ⟨Bld.fresh w, hbox.alloc _, hbel.alloc hbel.size _, hbox.lt, by simp⟩
theorem EncAt.wrote {W w w' : World} {cs : Array Value} {B b : Nat} {l m : List UInt8} (h : EncAt W cs B b l w) (hb : Bld w' B b m) (hl : Below B w w') : EncAt W cs B b m w' :=
  ⟨hb, h.box.below hl h.lo, h.bel.trans (hl.mono (Nat.le_of_lt h.lo)), h.lo, Nat.le_trans h.le hl.size⟩
theorem mk_size (l : List UInt8) : (⟨l.toArray⟩ : ByteArray).size = l.length := rfl
theorem recC_at {r : Rec} {A : Option Addr} {c : Nat} {w : World} {b : Nat} (h : Box w b 85 (recC r A c)) : w.cell? ⟨b, 0, none⟩ = some (.int .i64 r.place) ∧ w.cell? ⟨b, 1, none⟩ = some (.int .i64 r.time) ∧ w.cell? ⟨b, 2, none⟩ = some (.bool r.bare) ∧ w.cell? ⟨b, 3, none⟩ = some (.string r.key) ∧
    w.cell? ⟨b, 4, none⟩ = some (.bool r.gone) ∧ w.cell? ⟨b, 5, none⟩ = some (.string r.value) ∧ w.cell? ⟨b, 6, none⟩ = some (.slice A r.heads.length c) :=
  ⟨by rw [h.cell]; rfl, by rw [h.cell]; rfl, by rw [h.cell]; rfl, by rw [h.cell]; rfl, by rw [h.cell]; rfl, by rw [h.cell]; rfl, by rw [h.cell]; rfl⟩
set_option maxHeartbeats 4000000 in
set_option maxRecDepth 100000 in
theorem enc_bad (r : Rec) (A : Option Addr) (c : Nat) (W : World) (hR : RIn W r A c) (h : okRec r = false) :
    Calls Tryz.prog 108 #[recV r A c] W (Good W (.tuple #[.string ⟨#[]⟩, .int .i64 1])) := by
  have hc := check_c r A c (W.alloc (.cells (recC r A c) 85)) (hR.below ((Below.refl _ _).alloc (Nat.le_refl _) _))
  rw [show recE r = 1 by unfold recE; rw [h]; rfl] at hc
  clear h hR
  unfold recV recC at *
  go_enter Tryz.func108, Tryz.ntmps108
  go_wp2_with ((with_reducible refine hc.mono ?_); rintro e w1 ⟨rfl, hb1⟩)
  go_ret2
  exact ⟨rfl, ((Below.refl _ _).alloc (Nat.le_refl _) _).trans (hb1.mono (by simp))⟩
set_option maxHeartbeats 4000000 in
set_option maxRecDepth 100000 in
theorem enc_good (r : Rec) (A : Option Addr) (c : Nat) (W : World) (hR : RIn W r A c) (h : okRec r = true) :
    Calls Tryz.prog 108 #[recV r A c] W (Good W (.tuple #[.string (encR r), .int .i64 0])) := by
  have hc := check_c r A c (W.alloc (.cells (recC r A c) 85)) (hR.below ((Below.refl _ _).alloc (Nat.le_refl _) _))
  rw [show recE r = 0 by unfold recE; rw [h]; rfl] at hc
  obtain ⟨⟨p0, p1, t0, t1⟩, ⟨k1, v1⟩, m1, ha⟩ := okRec_parts h
  have hm := fun w => marks_c r A c w
  have c1 := fun w => put_c r.place w (by omega) (by omega)
  have c2 := fun w => put_c r.time w (by omega) (by omega)
  have c3 := fun w => put_c (marks r.bare r.gone) w (by have := marks_cases r.bare r.gone; omega) (by have := marks_cases r.bare r.gone; omega)
  have c4 := fun w => text_c r.key w (by omega)
  have c5 := fun w => text_c r.value w (by omega)
  have c6 := fun w => put_c (r.heads.length : Int) w (by omega) (by omega)
  have HH := Lib.hid hR.heads
  have HE : Hid (encR r = ⟨(encL r).toArray⟩) := Lib.hid rfl
  have HA := Lib.hid ha
  clear h hR ha
  generalize encR r = res at *
  have HL : Hid (encL r = putL r.place ++ (putL r.time ++ (putL (marks r.bare r.gone) ++ (txt r.key ++ (txt r.value ++ (putL r.heads.length ++ headsL r.heads)))))) := Lib.hid rfl
  generalize encL r = L at *
  obtain ⟨place, time, bare, key, gone, value, heads⟩ := r
  simp only at *
  have q1 := putL_len place
  have q2 := putL_len time
  have q3 := putL_len (marks bare gone)
  have q4 := txt_le key
  have q5 := txt_le value
  have q6 := putL_len (heads.length : Int)
  have s4 := textG_list key
  have s5 := textG_list value
  have z4 := textG_size key
  have z5 := textG_size value
  have S4 := Lib.hid s4
  have S5 := Lib.hid s5
  have Z4 := Lib.hid z4
  have Z5 := Lib.hid z5
  clear s4 s5 z4 z5
  generalize textG key = gk at *
  generalize textG value = gv at *
  generalize txt key = lk at *
  generalize txt value = lv at *
  generalize marks bare gone = mk at *
  generalize putL place = l1 at *
  generalize putL time = l2 at *
  generalize putL mk = l3 at *
  generalize putL (heads.length : Int) = l6 at *
  unfold recV recC at *
  simp only at *
  go_enter Tryz.func108, Tryz.ntmps108
  go_wp2_with fail
  (with_reducible refine hc.mono ?_)
  rintro e w1 ⟨rfl, hb1⟩
  have HB1 : Hid (Box w1 W.heap.size 85 #[.int .i64 place, .int .i64 time, .bool bare, .string key, .bool gone, .string value, .slice A heads.length c]) := Lib.hid ((Box.new W _ _).later hb1)
  have HS := Lib.hid (EncAt.start HB1.out (((Below.refl _ _).alloc (Nat.le_refl _) _).trans (hb1.mono (by simp))))
  clear hb1 HB1 hc
  have cells := fun w (h : Box w W.heap.size 85 #[.int .i64 place, .int .i64 time, .bool bare, .string key, .bool gone, .string value, .slice A heads.length c]) => recC_at (r := ⟨place, time, bare, key, gone, value, heads⟩) (A := A) (c := c) (w := w) (b := W.heap.size) h
  simp only at cells
  have CE := Lib.hid cells
  clear cells
  obtain ⟨x0, x1, x2, x3, x4, x5, x6⟩ := CE.out _ HS.out.box
  go_wp2_with fail
  (with_reducible refine (c1 _).mono ?_)
  rintro e w2 ⟨rfl, hb⟩
  have Hw2 := Lib.hid (HS.out.later hb)
  clear hb HS x0 x1 x2 x3 x4 x5 x6
  go_wp2_with fail
  (with_reducible refine (bwrite_c _ _ _ _ _ Hw2.out.bld (by simp only [List.length_nil, mk_size]; omega) Hw2.out.le).mono ?_)
  rintro e w3 ⟨rfl, hx1, hx2, hx3⟩
  have Hw3 := Lib.hid (Hw2.out.wrote (m := l1) (by simpa using hx1) hx2)
  clear hx1 hx2 hx3 Hw2
  obtain ⟨x0, x1, x2, x3, x4, x5, x6⟩ := CE.out _ Hw3.out.box
  go_wp2_with fail
  (with_reducible refine (c2 _).mono ?_)
  rintro e w4 ⟨rfl, hb⟩
  have Hw4 := Lib.hid (Hw3.out.later hb)
  clear hb Hw3 x0 x1 x2 x3 x4 x5 x6
  go_wp2_with fail
  (with_reducible refine (bwrite_c _ _ _ _ _ Hw4.out.bld (by simp only [mk_size]; omega) Hw4.out.le).mono ?_)
  rintro e w5 ⟨rfl, hx1, hx2, hx3⟩
  have Hw5 := Lib.hid (Hw4.out.wrote (m := (l1 ++ l2)) (by simpa using hx1) hx2)
  clear hx1 hx2 hx3 Hw4
  obtain ⟨x0, x1, x2, x3, x4, x5, x6⟩ := CE.out _ Hw5.out.box
  go_wp2_with fail
  (with_reducible refine (hm _).mono ?_)
  rintro e wm ⟨rfl, hbm⟩
  have HSm := Lib.hid (Hw5.out.later hbm)
  clear hbm Hw5
  go_wp2_with fail
  (with_reducible refine (c3 _).mono ?_)
  rintro e w6 ⟨rfl, hb⟩
  have Hw6 := Lib.hid (HSm.out.later hb)
  clear hb HSm x0 x1 x2 x3 x4 x5 x6
  go_wp2_with fail
  (with_reducible refine (bwrite_c _ _ _ _ _ Hw6.out.bld (by simp only [List.length_append, mk_size]; omega) Hw6.out.le).mono ?_)
  rintro e w7 ⟨rfl, hx1, hx2, hx3⟩
  have Hw7 := Lib.hid (Hw6.out.wrote (m := (l1 ++ l2 ++ l3)) (by simpa using hx1) hx2)
  clear hx1 hx2 hx3 Hw6
  obtain ⟨x0, x1, x2, x3, x4, x5, x6⟩ := CE.out _ Hw7.out.box
  go_wp2_with fail
  (with_reducible refine (c4 _).mono ?_)
  rintro e w8 ⟨rfl, hb⟩
  have Hw8 := Lib.hid (Hw7.out.later hb)
  clear hb Hw7 x0 x1 x2 x3 x4 x5 x6
  go_wp2_with fail
  (with_reducible refine (bwrite_c _ _ _ _ _ Hw8.out.bld (by have hz := Z4.out; simp only [List.length_append]; omega) Hw8.out.le).mono ?_)
  rintro e w9 ⟨rfl, hx1, hx2, hx3⟩
  have Hw9 := Lib.hid (Hw8.out.wrote (m := (l1 ++ l2 ++ l3 ++ lk)) (by rw [S4.out] at hx1; exact hx1) hx2)
  clear hx1 hx2 hx3 Hw8
  obtain ⟨x0, x1, x2, x3, x4, x5, x6⟩ := CE.out _ Hw9.out.box
  go_wp2_with fail
  (with_reducible refine (c5 _).mono ?_)
  rintro e w10 ⟨rfl, hb⟩
  have Hw10 := Lib.hid (Hw9.out.later hb)
  clear hb Hw9 x0 x1 x2 x3 x4 x5 x6
  go_wp2_with fail
  (with_reducible refine (bwrite_c _ _ _ _ _ Hw10.out.bld (by have hz := Z5.out; simp only [List.length_append]; omega) Hw10.out.le).mono ?_)
  rintro e w11 ⟨rfl, hx1, hx2, hx3⟩
  have Hw11 := Lib.hid (Hw10.out.wrote (m := (l1 ++ l2 ++ l3 ++ lk ++ lv)) (by rw [S5.out] at hx1; exact hx1) hx2)
  clear hx1 hx2 hx3 Hw10
  obtain ⟨x0, x1, x2, x3, x4, x5, x6⟩ := CE.out _ Hw11.out.box
  go_wp2_with fail
  (with_reducible refine (c6 _).mono ?_)
  rintro e w12 ⟨rfl, hb⟩
  have Hw12 := Lib.hid (Hw11.out.later hb)
  clear hb Hw11 x0 x1 x2 x3 x4 x5 x6
  go_wp2_with fail
  (with_reducible refine (bwrite_c _ _ _ _ _ Hw12.out.bld (by simp only [List.length_append, mk_size]; omega) Hw12.out.le).mono ?_)
  rintro e w13 ⟨rfl, hx1, hx2, hx3⟩
  have Hw13 := Lib.hid (Hw12.out.wrote (m := (l1 ++ l2 ++ l3 ++ lk ++ lv ++ l6)) (by simpa using hx1) hx2)
  clear hx1 hx2 hx3 Hw12
  obtain ⟨x0, x1, x2, x3, x4, x5, x6⟩ := CE.out _ Hw13.out.box
  go_wp2_with fail
  obtain ⟨P, hP⟩ : ∃ P, P = l1 ++ l2 ++ l3 ++ lk ++ lv ++ l6 := ⟨_, rfl⟩
  have hPl : P.length ≤ 3000 := by rw [hP]; simp only [List.length_append]; omega
  have HP : Hid (L = P ++ headsL heads) := Lib.hid (by rw [HL.out, hP]; simp)
  have HST := Hw13.out
  rw [← hP] at HST
  have HS := Lib.hid HST
  clear HST hP HL Hw13 x0 x1 x2 x3 x4 x5 x6 CE c1 c2 c3 c4 c5 c6 hm
  go_loopw [7, 41] (fun x i wr => ∃ k : Nat, i = .int .i64 k ∧ k ≤ heads.length ∧ EncAt W #[.int .i64 place, .int .i64 time, .bool bare, .string key, .bool gone, .string value, .slice A heads.length c] w1.heap.size w1.heap.size (P ++ headsL (heads.take k)) wr) (fun _ i _ => heads.length - (intOf i).toNat)
  case atStart => exact ⟨0, rfl, Nat.zero_le _, by simpa [headsL] using HS.out⟩
  case round =>
    obtain ⟨k, rfl, hkl, hR⟩ := hrel
    by_cases hk : k < heads.length
    · obtain ⟨b, off, rfl, hbl, g1, g2⟩ := (HH.out.below hR.bel).at_ hk
      have hok := List.all_eq_true.1 HA.out _ (List.getElem_mem hk)
      simp only [okHead, decide_eq_true_eq] at hok
      have hle := headsL_le (heads.take k) (by rw [List.all_eq_true]; exact fun x hx => List.all_eq_true.1 HA.out x (List.mem_of_mem_take hx))
      rw [List.length_take] at hle
      have hs1 := Lib.hid (headsL_take_succ hk)
      obtain ⟨o1, o2, o3⟩ := hok
      have q1 := txt_le heads[k].1
      have q2 := txt_le heads[k].2
      have t1 := fun w => text_c heads[k].1 w (by omega)
      have t2 := fun w => text_c heads[k].2 w (by omega)
      have S1 := Lib.hid (textG_list heads[k].1)
      have S2 := Lib.hid (textG_list heads[k].2)
      have Z1 := Lib.hid (textG_size heads[k].1)
      have Z2 := Lib.hid (textG_size heads[k].2)
      have HR := Lib.hid hR
      clear hR
      generalize textG heads[k].1 = gk at *
      generalize textG heads[k].2 = gv at *
      generalize txt heads[k].1 = lk at *
      generalize txt heads[k].2 = lv at *
      generalize heads[k].1 = hk1 at *
      generalize heads[k].2 = hk2 at *
      generalize headsL (heads.take k) = hl at *
      go_wp2_with fail
      (with_reducible refine (t1 _).mono ?_)
      rintro e v2 ⟨rfl, hb⟩
      have HV2 := Lib.hid ((HR.out.later ((Below.refl _ _).alloc (Nat.le_refl _) (.cells #[.string hk1, .string hk2] 87))).later hb)
      have HX2 := Lib.hid ((Box.new wr 87 #[.string hk1, .string hk2]).later hb)
      clear hb HS
      go_wp2_with fail
      (with_reducible refine (bwrite_c _ _ _ _ _ HV2.out.bld (by have hz := Z1.out; simp only [List.length_append]; omega) HV2.out.le).mono ?_)
      rintro e v3 ⟨rfl, hx1, hx2, hx3⟩
      have HV3 := Lib.hid (HV2.out.wrote (m := P ++ hl ++ lk) (by rw [S1.out] at hx1; exact hx1) hx2)
      have HX3 := Lib.hid (hx3.box HX2.out (by have := HR.out.le; have := (Bld.lt HR.out.bld); omega) (by decide))
      clear hx1 hx2 hx3 HV2 HX2
      have y0 := HX3.out.cell 0
      have y1 := HX3.out.cell 1
      simp only [List.getElem?_toArray, List.getElem?_cons_zero, List.getElem?_cons_succ] at y0 y1
      go_wp2_with fail
      (with_reducible refine (t2 _).mono ?_)
      rintro e v4 ⟨rfl, hb⟩
      have HV4 := Lib.hid (HV3.out.later hb)
      clear hb HV3 HX3
      go_wp2_with fail
      (with_reducible refine (bwrite_c _ _ _ _ _ HV4.out.bld (by have hz := Z2.out; simp only [List.length_append]; omega) HV4.out.le).mono ?_)
      rintro e v5 ⟨rfl, hx1, hx2, hx3⟩
      have HV5 := Lib.hid (HV4.out.wrote (m := P ++ headsL (heads.take (k + 1))) (by rw [S2.out] at hx1; rw [hs1.out]; simpa using hx1) hx2)
      clear hx1 hx2 hx3 HV4
      go_wp2
      go_roundw
      case rel => exact ⟨k + 1, by go_num, hk, HV5.out⟩
      case measure => simp [intOf]; omega
    · have hR2 : EncAt W #[.int .i64 place, .int .i64 time, .bool bare, .string key, .bool gone, .string value, .slice A heads.length c] w1.heap.size w1.heap.size L wr := by
        rw [HP.out]
        rwa [List.take_of_length_le (by omega)] at hR
      have HR := Lib.hid hR2
      clear hR hR2 HS
      have hbs : Lib.IsBuilder 158 5 w1.heap.size w1.heap.size (Lib.byteCells L) wr := HR.out.bld
      have hst := Tryz.Builder_String_any _ _ L _ hbs HR.out.le
      clear hbs
      go_wp2_with fail
      (with_reducible refine hst.mono ?_)
      rintro e v ⟨rfl, hb⟩
      go_wp2
      go_ret2
      exact ⟨by rw [HE.out]; rfl, HR.out.bel.trans (hb.mono (Nat.le_of_lt HR.out.lo))⟩
theorem enc_c (r : Rec) (A : Option Addr) (c : Nat) (W : World) (hR : RIn W r A c) :
    Calls Tryz.prog 108 #[recV r A c] W (Good W (.tuple #[.string (if okRec r = true then encR r else ⟨#[]⟩), .int .i64 (recE r)])) := by
  cases h : okRec r with
  | true =>
    rw [if_pos rfl, show recE r = 0 by unfold recE; rw [h]; rfl]
    exact enc_good r A c W hR h
  | false =>
    rw [if_neg (by decide), show recE r = 1 by unfold recE; rw [h]; rfl]
    exact enc_bad r A c W hR h
end Go.Proofs.YtjnphajkoopkgaaGreatDoor
