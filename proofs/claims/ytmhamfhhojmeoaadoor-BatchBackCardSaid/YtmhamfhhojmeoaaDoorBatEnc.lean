/- A batch's bytes: the program's Encode and Check, the document's Encode. Condition: the table of sums. -/
import Derived.Test.YtmhamfhhojmeoaaDoorBatPack
import Derived.Test.YtmhamfhhojmeoaaDoorPFixed
import Derived.Test.YtmhamfhhojmeoaaDoorRFixed
import Derived.Test.YtmhamfhhojmeoaaDoorCrWalk
namespace Go.Proofs.YtmhamfhhojmeoaaDoor
open Go.RowKit
set_option linter.unusedVariables false
abbrev Tab (w : World) : Prop := CR.Tab w
theorem Tab.below {w w' : World} (h : Tab w) (hb : Below w.heap.size w w') : Tab w' := fun i hi => by
  have hc := h i hi
  have hlt : 0 < w.heap.size := by
    rcases Nat.lt_or_ge 0 w.heap.size with h1 | h1
    · exact h1
    · simp [World.cell?, Array.getElem?_eq_none h1] at hc
  exact (hb.cell (p := ⟨0, i, none⟩) hlt).trans hc
def w4 (n : Nat) : ByteArray := ⟨(be 4 n).toArray⟩
theorem w4_size (n : Nat) : (w4 n).size = 4 := by show (be 4 n).toArray.size = 4; simp [be_len]
theorem fix4 {n : Nat} (h : n < 4294967296) : fixG (n : Int) 4 = (w4 n, 0) := by
  unfold fixG w4
  have e : n / 256 ^ 4 = 0 := Nat.div_eq_of_lt (by omega)
  rw [if_neg]
  · rfl
  · simp only [Int.toNat_natCast, show (4 : Int).toNat = 4 from rfl, e]
    omega
def sumN (s : ByteArray) : Nat := CR.ext 0 s.data.toList
theorem sumN_lt (s : ByteArray) : sumN s < 4294967296 := CR.ext_lt (by decide) _
/-- The bytes of a body. -/
def wrapB (s : ByteArray) : ByteArray := w4 s.size ++ w4 (sumN s) ++ s
theorem wrapB_size (s : ByteArray) : (wrapB s).size = 8 + s.size := by unfold wrapB; rw [ByteArray.size_append, ByteArray.size_append, w4_size, w4_size]
def bodyB (b : BN) (L : List RX) : ByteArray := ⟨(bodyL b L).toArray⟩
theorem bodyB_size (b : BN) (L : List RX) : (bodyB b L).size = (bodyL b L).length := by show (bodyL b L).toArray.size = _; simp
def encB (b : BN) (L : List RX) : ByteArray := if batB b L = true then wrapB (bodyB b L) else ⟨#[]⟩
theorem batB_size {b : BN} {L : List RX} (h : batB b L = true) : (bodyB b L).size ≤ 60000 := by
  rw [bodyB_size]
  unfold batB at h
  simp only [Bool.and_eq_true, decide_eq_true_eq] at h
  exact h.2.2.2
theorem rof_c (n w : Int) (W : World) (hn : n ≤ 9223372036854775807) : Calls Tryd.prog 27 #[.int .i64 n, .int .i64 w] W (Good W (.string (fixG n w).1)) := by
  have hc := rfixed_c n w W hn
  generalize (fixG n w).1 = s at *
  generalize (fixG n w).2 = e at *
  go_enter Tryd.func27, Tryd.ntmps27
  go_wp2_with ((with_reducible refine hc.mono ?_); rintro e w1 ⟨rfl, hb⟩)
  go_ret
  exact ⟨rfl, hb⟩
theorem pfix_c (n : Nat) (W : World) (h : n < 4294967296) : Calls Tryd.prog 24 #[.int .i64 (n : Int), .int .i64 4] W (Good W (.tuple #[.string (w4 n), .int .i64 0])) := by
  have hc := fixed_c (n : Int) 4 W (by omega)
  rw [fix4 h] at hc
  exact hc
theorem rof4_c (n : Nat) (W : World) (h : n < 4294967296) : Calls Tryd.prog 27 #[.int .i64 (n : Int), .int .i64 4] W (Good W (.string (w4 n))) := by
  have hc := rof_c (n : Int) 4 W (by omega)
  rw [fix4 h] at hc
  exact hc
def encV (b : BN) (L : List RX) : Value := .tuple #[.string (encB b L), .int .i64 (batE b L)]
set_option maxHeartbeats 8000000 in
set_option maxRecDepth 100000 in
theorem pencode_c (b : BN) (A : Option Addr) (c : Nat) (L : List RX) (W : World) (h : RsIn W A L) (hlen : L.length ≤ 140737488351232) (hT : Tab W) :
    Calls Tryd.prog 12 #[.agg (bnC b (.slice A L.length c))] W (Good W (encV b L)) := by
  have hbel : Below W.heap.size W (W.alloc (.cells (bnC b (.slice A L.length c)) 24)) := (Below.refl _ W).alloc (Nat.le_refl _) _
  have cp := pack_c b A c L (W.alloc (.cells (bnC b (.slice A L.length c)) 24)) (h.below hbel) hlen
  obtain ⟨y0, y1, y2, y3, y4, y5⟩ := batC_at (Box.new W 24 (bnC b (.slice A L.length c)))
  have HB0 := Lib.hid hbel
  clear hbel
  unfold encV encB
  unfold packV batE at cp
  unfold batE
  cases hb : batB b L with
  | false =>
    rw [hb, if_neg (by decide), if_neg (by decide)] at cp
    rw [if_neg (by decide), if_neg (by decide)]
    obtain ⟨base, span, prod, epoch, seq⟩ := b
    clear hb
    unfold bnC at *
    simp only at *
    go_enter Tryd.func12, Tryd.ntmps12
    go_wp2_with fail
    (with_reducible refine cp.mono ?_)
    rintro e w1 ⟨rfl, hb1⟩
    go_wp2
    go_ret2
    exact ⟨rfl, HB0.out.trans (hb1.mono HB0.out.size)⟩
  | true =>
    rw [hb, if_pos rfl, if_pos rfl] at cp
    rw [if_pos rfl, if_pos rfl]
    have hsz := batB_size hb
    obtain ⟨base, span, prod, epoch, seq⟩ := b
    change Calls _ _ _ _ (Good _ (.tuple #[.string (bodyB ⟨base, span, prod, epoch, seq⟩ L), .int .i64 0])) at cp
    clear hb
    generalize bodyB ⟨base, span, prod, epoch, seq⟩ L = s at *
    have cs := fun w hw => CR.sum_c s w (by unfold maxLen; omega) hw
    have c1 := fun w => pfix_c s.size w (by omega)
    have c2 := fun w => pfix_c (sumN s) w (sumN_lt s)
    have hsl := sumN_lt s
    have z1 := w4_size s.size
    have z2 := w4_size (sumN s)
    have a1 := add_run (P := Tryd.prog) (a := w4 s.size) (b := w4 (sumN s)) (m := 4) (n := 4) (by omega) (by omega) (by decide)
    have a2 := add_run (P := Tryd.prog) (a := w4 s.size ++ w4 (sumN s)) (b := s) (m := 8) (n := 60000) (by rw [ByteArray.size_append]; omega) hsz (by decide)
    have HE := Lib.hid (show wrapB s = w4 s.size ++ w4 (sumN s) ++ s from rfl)
    change ∀ w, Tab w → Calls _ _ _ _ (fun e w' => e = .returned (.int .u32 (sumN s : Nat)) ∧ w = w') at cs
    clear z1 z2
    generalize sumN s = sm at *
    generalize w4 s.size = f1 at *
    generalize w4 sm = f2 at *
    generalize wrapB s = res at *
    unfold bnC at *
    simp only at *
    go_enter Tryd.func12, Tryd.ntmps12
    go_wp2_with fail
    (with_reducible refine cp.mono ?_)
    rintro e w1 ⟨rfl, hb1⟩
    have HB1 := Lib.hid (HB0.out.trans (hb1.mono HB0.out.size))
    clear hb1 cp y0 y1 y2 y3 y4 y5 HB0
    go_wp2_with fail
    (with_reducible refine (c1 _).mono ?_)
    rintro e w2 ⟨rfl, hb2⟩
    have HB2 := Lib.hid (HB1.out.trans (hb2.mono HB1.out.size))
    clear hb2 c1 HB1
    go_wp2_with fail
    (with_reducible refine (cs _ (hT.below HB2.out)).mono ?_)
    rintro e w3 ⟨rfl, rfl⟩
    go_wp2_with fail
    (with_reducible refine (c2 _).mono ?_)
    rintro e w4 ⟨rfl, hb4⟩
    have HB4 := Lib.hid (HB2.out.trans (hb4.mono HB2.out.size))
    clear hb4 c2 cs HB2
    go_wp2
    go_ret2
    exact ⟨by rw [HE.out]; rfl, HB4.out⟩
set_option maxHeartbeats 8000000 in
set_option maxRecDepth 100000 in
theorem pcheck5_c (b : BN) (A : Option Addr) (c : Nat) (L : List RX) (W : World) (h : RsIn W A L) (hlen : L.length ≤ 140737488351232) :
    Calls Tryd.prog 14 #[.agg (bnC b (.slice A L.length c))] W (Good W (.int .i64 (batE b L))) := by
  have hbel : Below W.heap.size W (W.alloc (.cells (bnC b (.slice A L.length c)) 24)) := (Below.refl _ W).alloc (Nat.le_refl _) _
  have cp := pack_c b A c L (W.alloc (.cells (bnC b (.slice A L.length c)) 24)) (h.below hbel) hlen
  obtain ⟨y0, y1, y2, y3, y4, y5⟩ := batC_at (Box.new W 24 (bnC b (.slice A L.length c)))
  have HB0 := Lib.hid hbel
  clear hbel
  unfold packV at cp
  generalize batE b L = ee at *
  generalize (if batB b L = true then (⟨(bodyL b L).toArray⟩ : ByteArray) else ⟨#[]⟩) = s at *
  obtain ⟨base, span, prod, epoch, seq⟩ := b
  unfold bnC at *
  simp only at *
  go_enter Tryd.func14, Tryd.ntmps14
  go_wp2_with fail
  (with_reducible refine cp.mono ?_)
  rintro e w1 ⟨rfl, hb1⟩
  go_wp2
  go_ret
  exact ⟨rfl, HB0.out.trans (hb1.mono HB0.out.size)⟩
set_option maxHeartbeats 8000000 in
set_option maxRecDepth 100000 in
theorem rencode5_c (b : BN) (A : Option Addr) (c : Nat) (L : List RX) (W : World) (h : RsIn W A L) (hlen : L.length ≤ 140737488351232) :
    Calls Tryd.prog 13 #[.agg (bnC b (.slice A L.length c))] W (Good W (encV b L)) := by
  have hbel : Below W.heap.size W (W.alloc (.cells (bnC b (.slice A L.length c)) 24)) := (Below.refl _ W).alloc (Nat.le_refl _) _
  have cp := rcheck5_c b A c L (W.alloc (.cells (bnC b (.slice A L.length c)) 24)) (h.below hbel) hlen
  have HBX := Lib.hid (Box.new W 24 (bnC b (.slice A L.length c)))
  obtain ⟨y0, y1, y2, y3, y4, y5⟩ := batC_at HBX.out
  have HB0 := Lib.hid hbel
  clear hbel
  unfold encV encB
  unfold batE at cp
  unfold batE
  cases hb : batB b L with
  | false =>
    rw [hb, if_neg (by decide)] at cp
    rw [if_neg (by decide), if_neg (by decide)]
    obtain ⟨base, span, prod, epoch, seq⟩ := b
    clear hb
    unfold bnC at *
    simp only at *
    go_enter Tryd.func13, Tryd.ntmps13
    go_wp2_with fail
    (with_reducible refine cp.mono ?_)
    rintro e w1 ⟨rfl, hb1⟩
    go_wp2
    go_ret2
    exact ⟨rfl, HB0.out.trans (hb1.mono HB0.out.size)⟩
  | true =>
    rw [hb, if_pos rfl] at cp
    rw [if_pos rfl, if_pos rfl]
    have hsz := batB_size hb
    have hbb := hb
    unfold batB at hbb
    simp only [Bool.and_eq_true, decide_eq_true_eq] at hbb
    obtain ⟨hn, hl50, hg, _⟩ := hbb
    rw [goodL_eq, Bool.and_eq_true, List.all_eq_true] at hg
    have cb := fun w hw => rbody_c b A c L w hw hl50 hn (fun x hx => hg.2 x hx)
    change ∀ w, RsIn w A L → Calls _ _ _ _ (Good _ (.string (bodyB b L))) at cb
    clear hb hn hg
    obtain ⟨base, span, prod, epoch, seq⟩ := b
    generalize bodyB ⟨base, span, prod, epoch, seq⟩ L = s at *
    have cs := fun w => CR.rsum_c s w (by unfold maxLen; omega)
    have c1 := fun w => rof4_c s.size w (by omega)
    have c2 := fun w => rof4_c (sumN s) w (sumN_lt s)
    have hsl := sumN_lt s
    have z1 := w4_size s.size
    have z2 := w4_size (sumN s)
    have a1 := add_run (P := Tryd.prog) (a := w4 s.size) (b := w4 (sumN s)) (m := 4) (n := 4) (by omega) (by omega) (by decide)
    have a2 := add_run (P := Tryd.prog) (a := w4 s.size ++ w4 (sumN s)) (b := s) (m := 8) (n := 60000) (by rw [ByteArray.size_append]; omega) hsz (by decide)
    have HE := Lib.hid (show wrapB s = w4 s.size ++ w4 (sumN s) ++ s from rfl)
    change ∀ w, Calls _ _ _ _ (fun e w' => e = .returned (.int .u32 (sumN s : Nat)) ∧ w = w') at cs
    clear z1 z2
    generalize sumN s = sm at *
    generalize w4 s.size = f1 at *
    generalize w4 sm = f2 at *
    generalize wrapB s = res at *
    have CE := Lib.hid (fun w (hw : Box w W.heap.size 24 (bnC ⟨base, span, prod, epoch, seq⟩ (.slice A L.length c))) => batC_at hw)
    unfold bnC at *
    simp only at *
    go_enter Tryd.func13, Tryd.ntmps13
    go_wp2_with fail
    (with_reducible refine cp.mono ?_)
    rintro e w1 ⟨rfl, hb1⟩
    have HB1 := Lib.hid (HB0.out.trans (hb1.mono HB0.out.size))
    have HX1 := Lib.hid (HBX.out.later hb1)
    have hrs := h.below HB1.out
    clear hb1 cp y0 y1 y2 y3 y4 y5 HB0 HBX
    obtain ⟨y0, y1, y2, y3, y4, y5⟩ := CE.out _ HX1.out
    go_wp2_with fail
    (with_reducible refine (cb _ hrs).mono ?_)
    rintro e w2 ⟨rfl, hb2⟩
    have HB2 := Lib.hid (HB1.out.trans (hb2.mono HB1.out.size))
    clear hb2 cb HB1 hrs y0 y1 y2 y3 y4 y5
    go_wp2_with fail
    (with_reducible refine (c1 _).mono ?_)
    rintro e w3 ⟨rfl, hb3⟩
    have HB3 := Lib.hid (HB2.out.trans (hb3.mono HB2.out.size))
    clear hb3 c1 HB2
    go_wp2_with fail
    (with_reducible refine (cs _).mono ?_)
    rintro e w4 ⟨rfl, rfl⟩
    go_wp2_with fail
    (with_reducible refine (c2 _).mono ?_)
    rintro e w5 ⟨rfl, hb5⟩
    have HB5 := Lib.hid (HB3.out.trans (hb5.mono HB3.out.size))
    clear hb5 c2 cs HB3
    go_wp2
    go_ret2
    exact ⟨by rw [HE.out]; rfl, HB5.out⟩
end Go.Proofs.YtmhamfhhojmeoaaDoor
