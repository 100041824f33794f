/- The document's CopyAll of records and Copy of a batch: new memory; by contracts. -/
import Derived.Test.YtmhamfhhojmeoaaDoorBatCopy
import Derived.Test.YtmhamfhhojmeoaaDoorBatDec
import Derived.Maps.AppendAt
import Derived.Deep.RegionHeld3
namespace Go.Proofs.YtmhamfhhojmeoaaDoor
open Go.RowKit
set_option linter.unusedVariables false
/-- A copy of a list: the same records, in new memory. -/
def CopiedAll (W : World) (L : List RX) (en : Ending) (w' : World) : Prop := ∃ (M : List RX) (A : Option Addr) (c : Nat), M.map (·.1) = L.map (·.1) ∧ en = .returned (.slice A M.length c) ∧ RowR w' W.heap.size (.slice A M.length c) M ∧ Below W.heap.size W w'
structure CpS (W : World) (L : List RX) (k : Nat) (A : Option Addr) (c : Nat) (M : List RX) (w : World) : Prop where
  row : RowR w W.heap.size (.slice A M.length c) M
  bel : Below W.heap.size W w
  same : M.map (·.1) = (L.map (·.1)).take k
  len : M.length = k
theorem CpS.next {W w' : World} {L M : List RX} {k c c' : Nat} {A A' : Option Addr} {w : World} {x y : RX} (h : CpS W L k A c M w) (hx : L[k]? = some x) (hy : y.1 = x.1) (hr : RowR w' W.heap.size (.slice A' (M.length + 1) c') (M ++ [y])) (hb : Below W.heap.size W w') : CpS W L (k + 1) A' c' (M ++ [y]) w' := by
  obtain ⟨hk, he⟩ := List.getElem?_eq_some_iff.1 hx
  refine ⟨by rw [List.length_append]; exact hr, hb, ?_, by rw [List.length_append, h.len]; rfl⟩
  rw [List.take_succ_eq_append_getElem (by rw [List.length_map]; exact hk), List.map_append, h.same]
  simp [he, hy]
set_option maxHeartbeats 16000000 in
set_option maxRecDepth 100000 in
theorem rcopyAll_c (L : List RX) (A : Option Addr) (c : Nat) (W : World) (hA : RsIn W A L) (h50 : L.length ≤ 1000) (hh : ∀ x ∈ L, x.1.heads.length ≤ 1000) :
    Calls Tryd.prog 22 #[.slice A L.length c] W (CopiedAll W L) := by
  have H0 : Hid (CpS W L 0 none 0 [] W) := Lib.hid ⟨RowR.nil _ _, Below.refl _ _, rfl, rfl⟩
  have HA := Lib.hid hA
  clear hA
  obtain ⟨i0, hi, hz0, hz1, hz2⟩ := info_parts recInfo
  go_enter Tryd.func22, Tryd.ntmps22
  go_wp2_with fail
  go_loopw [3, 4] (fun l i wr => ∃ (k : Nat) (M : List RX) (B : Option Addr) (d : Nat), i = .int .i64 k ∧ k ≤ L.length ∧ l = .slice B M.length d ∧ CpS W L k B d M wr) (fun _ i _ => L.length - (intOf i).toNat)
  case atStart => exact ⟨0, [], none, 0, rfl, Nat.zero_le _, rfl, H0.out⟩
  case round =>
    obtain ⟨k, M, B, d, rfl, hkl, rfl, hS⟩ := hrel
    clear H0
    by_cases hk : k < L.length
    · obtain ⟨x, hx⟩ : ∃ x, L[k]? = some x := ⟨_, List.getElem?_eq_getElem hk⟩
      obtain ⟨b, off, rfl, hbl, hca⟩ := (HA.out.below hS.bel) (by omega)
      obtain ⟨⟨x0, x1, x2, x3, x4, x5, x6⟩, hR⟩ := hca k x hx
      have hxl := hh x (List.mem_of_getElem? hx)
      have HN := Lib.hid (fun w' A' c' (y : RX) => hS.next (w' := w') (A' := A') (c' := c') (y := y) hx)
      have HS := Lib.hid hS
      have HML := Lib.hid (show M.length ≤ 1000 by rw [hS.len]; omega)
      obtain ⟨r, A1, c1⟩ := x
      have cc := rcopy_c r A1 c1 wr hR hxl
      obtain ⟨place, time, bare, key, gone, value, heads⟩ := r
      unfold Copied recV recC at cc
      simp only at cc
      have hki : (k : Int) < (L.length : Int) := by omega
      clear hca hx hS hR hbl
      go_wp2_with fail
      (with_reducible refine cc.mono ?_)
      rintro en w1 ⟨A2, c2, rfl, hown, hb1⟩
      have hsz1 := HS.out.bel.size
      have hal2 : Below w1.heap.size w1 (w1.alloc (.cells #[.int .i64 place, .int .i64 time, .bool bare, .string key, .bool gone, .string value, .slice A2 heads.length c2] 49)) := (Below.refl _ _).alloc (Nat.le_refl _) _
      have HV2 := Lib.hid (And.intro ((HS.out.row.later hb1).later hal2) (And.intro (own_below (own_base hown hsz1) hal2) ((HS.out.bel.trans (hb1.mono hsz1)).trans (hal2.mono (Nat.le_trans hsz1 hb1.size)))))
      have hrow2 := HV2.out.1.row
      have hnews := news_at (Box.new w1 49 (recC ⟨place, time, bare, key, gone, value, heads⟩ A2 c2))
      have hone := rec_one ⟨place, time, bare, key, gone, value, heads⟩ A2 c2
      have hsz2 := HV2.out.2.2.size
      unfold recC at hnews hone
      simp only at hnews hone
      have HNW := Lib.hid (And.intro hnews hone)
      clear hal2 hnews hone hown hb1 cc
      go_wp2_with (at_builtin; refine wpList_append_own_at _ rfl _ _ 22 rfl W.heap.size 49 i0 _ 7 88 Tryd.underlying22 hi hz0 hz1 hz2 recC_zero (by decide) (.slice B M.length d) M.length (recsC M) rfl hrow2 ⟨w1.heap.size, 0, none⟩ 1 1 [.int .i64 place, .int .i64 time, .bool bare, .string key, .bool gone, .string value, .slice A2 heads.length c2] rfl rfl HNW.out.1 HNW.out.2 (by have := HML.out; unfold maxLen; omega) (by have := HML.out; omega) hsz2 ?_)
      intro v' w2 hown' hgrow _ _
      obtain ⟨g', cap', rfl⟩ : ∃ g' cap', v' = .slice (some ⟨g', 0, none⟩) (M.length + 1) cap' := by
        rcases hown'.2 with ⟨_, h0⟩ | ⟨g, cap, cur, hv, _⟩
        · omega
        · exact ⟨g, cap, hv⟩
      have HB2 := Lib.hid (HV2.out.2.2.grown hgrow hsz2 (fun j e => (hrow2.lt j e).1))
      have HR2 := Lib.hid (HV2.out.1.grow (x := (⟨place, time, bare, key, gone, value, heads⟩, A2, c2)) HV2.out.2.1 hown' hgrow)
      clear hown' hgrow hrow2
      go_wp2
      go_roundw
      case rel =>
        refine ⟨k + 1, M ++ [(⟨place, time, bare, key, gone, value, heads⟩, A2, c2)], some ⟨g', 0, none⟩, cap', by go_num, hk, ?_, HN.out _ _ _ _ rfl HR2.out HB2.out⟩
        rw [List.length_append]; rfl
      case measure => simp [intOf]; omega
    · have hF : M.map (·.1) = L.map (·.1) := by rw [hS.same, List.take_of_length_le (by rw [List.length_map]; omega)]
      have HF := Lib.hid (And.intro hF hS)
      clear hF hS
      go_wp2
      go_ret
      exact ⟨M, B, d, HF.out.1, rfl, HF.out.2.row, HF.out.2.bel⟩
/-- A copy of a batch. -/
def CopiedB (W : World) (b : BN) (L : List RX) (en : Ending) (w' : World) : Prop := ∃ (M : List RX) (A : Option Addr) (c : Nat), M.map (·.1) = L.map (·.1) ∧ en = .returned (.agg (bnC b (.slice A M.length c))) ∧ RowR w' W.heap.size (.slice A M.length c) M ∧ Below W.heap.size W w'
theorem cpb_result {w : World} (g : Nat) {v0 v1 v2 v3 v4 v5 : Value} (h : Box w g 24 #[v0, v1, v2, v3, v4, v5]) (tmps : Array Value) (ht : (tmps[2]?).getD undef = .pointer (some ⟨g, 0, none⟩)) :
    (results Tryd.f11 tmps).run Tryd.prog w = .ok (.agg #[v0, v1, v2, v3, v4, v5]) w := by
  have c0 := (h.cell 0).trans (show _ = some v0 from rfl)
  have c1 := (h.cell 1).trans (show _ = some v1 from rfl)
  have c2 := (h.cell 2).trans (show _ = some v2 from rfl)
  have c3 := (h.cell 3).trans (show _ = some v3 from rfl)
  have c4 := (h.cell 4).trans (show _ = some v4 from rfl)
  have c5 := (h.cell 5).trans (show _ = some v5 from rfl)
  simp [results, Tryd.results11, go_sem, ht, c0, c1, c2, c3, c4, c5]
set_option maxHeartbeats 16000000 in
set_option maxRecDepth 100000 in
theorem rcopy5_c (b : BN) (L : List RX) (A : Option Addr) (c : Nat) (W : World) (hA : RsIn W A L) (h50 : L.length ≤ 1000) (hh : ∀ x ∈ L, x.1.heads.length ≤ 1000) :
    Calls Tryd.prog 11 #[.agg (bnC b (.slice A L.length c))] W (CopiedB W b L) := by
  obtain ⟨base, span, prod, epoch, seq⟩ := b
  obtain ⟨W3, hW3⟩ : ∃ w, ((W.alloc (.cells #[.int .i64 base, .int .i64 span, .int .i64 prod, .int .i64 epoch, .int .i64 seq, .slice A L.length c] 24)).alloc (.cells #[.int .i64 0, .int .i64 0, .int .i64 0, .int .i64 0, .int .i64 0, .slice none 0 0] 24)).alloc (.cells #[.int .i64 base, .int .i64 span, .int .i64 prod, .int .i64 epoch, .int .i64 seq, .slice A L.length c] 24) = w := ⟨_, rfl⟩
  have hb3 : Below W.heap.size W W3 := by
    rw [← hW3]
    exact (((Below.refl _ W).alloc (Nat.le_refl _) _).alloc (by simp) _).alloc (by simp; omega) _
  have hx1 : Box W3 (W.heap.size + 1) 24 #[.int .i64 0, .int .i64 0, .int .i64 0, .int .i64 0, .int .i64 0, .slice none 0 0] := by
    rw [← hW3]
    have := Box.new (W.alloc (.cells #[.int .i64 base, .int .i64 span, .int .i64 prod, .int .i64 epoch, .int .i64 seq, .slice A L.length c] 24)) 24 #[.int .i64 0, .int .i64 0, .int .i64 0, .int .i64 0, .int .i64 0, .slice none 0 0]
    rw [World.size_alloc] at this
    exact this.alloc _
  have hx2 : Box W3 (W.heap.size + 1 + 1) 24 #[.int .i64 base, .int .i64 span, .int .i64 prod, .int .i64 epoch, .int .i64 seq, .slice A L.length c] := by
    rw [← hW3]
    have := Box.new ((W.alloc (.cells #[.int .i64 base, .int .i64 span, .int .i64 prod, .int .i64 epoch, .int .i64 seq, .slice A L.length c] 24)).alloc (.cells #[.int .i64 0, .int .i64 0, .int .i64 0, .int .i64 0, .int .i64 0, .slice none 0 0] 24)) 24 #[.int .i64 base, .int .i64 span, .int .i64 prod, .int .i64 epoch, .int .i64 seq, .slice A L.length c]
    rw [World.size_alloc, World.size_alloc] at this
    exact this
  have hx0 : W3.cell? ⟨W.heap.size, 5, none⟩ = some (.slice A L.length c) := by
    have hq : Box W3 W.heap.size 24 #[.int .i64 base, .int .i64 span, .int .i64 prod, .int .i64 epoch, .int .i64 seq, .slice A L.length c] := by
      rw [← hW3]
      exact ((Box.new W _ _).alloc _).alloc _
    exact (hq.cell 5).trans rfl
  have cc := rcopyAll_c L A c W3 (hA.below hb3) h50 hh
  have H3 := Lib.hid (And.intro hb3 (And.intro hx1 hx2))
  clear hb3 hx1 hx2 hA hh
  unfold bnC
  simp only
  go_enter Tryd.func11, Tryd.ntmps11
  go_wp2_with fail
  (with_reducible refine cc.mono ?_)
  rintro en w1 ⟨M, B, d, hM, rfl, hrow, hb1⟩
  have HM := Lib.hid hM
  have hs3 := H3.out.1.size
  have HV := Lib.hid (And.intro (H3.out.1.trans (hb1.mono hs3)) (And.intro (H3.out.2.1.later hb1) (And.intro (H3.out.2.2.later hb1) (hrow.base hs3))))
  have hfr := HV.out.2.2.1.frozen 5
  have hq5 := (HV.out.2.2.1.cell 5).trans (show _ = some (Value.slice A L.length c) from rfl)
  have hx2s : Box (w1.setCell ⟨W.heap.size + 1 + 1, 5, none⟩ (.slice B M.length d)) (W.heap.size + 1 + 1) 24 #[.int .i64 base, .int .i64 span, .int .i64 prod, .int .i64 epoch, .int .i64 seq, .slice B M.length d] := HV.out.2.2.1.set 5 _
  have hx1s := HV.out.2.1.far (p := ⟨W.heap.size + 1 + 1, 5, none⟩) (by show W.heap.size + 1 ≠ W.heap.size + 1 + 1; omega) (.slice B M.length d)
  have hrs := HV.out.2.2.2.set HV.out.2.2.1 (by decide) (by decide) 5 (.slice B M.length d)
  have hbs := HV.out.1.setCell (p := ⟨W.heap.size + 1 + 1, 5, none⟩) (by show W.heap.size ≤ W.heap.size + 1 + 1; omega) (.slice B M.length d)
  obtain ⟨y0, y1, y2, y3, y4, y5, _, _, _, _, _, _⟩ := box_six hx2s
  obtain ⟨z0, z1, z2, z3, z4, z5, f0, f1, f2, f3, f4, f5⟩ := box_six hx1s
  have HS := Lib.hid (And.intro hx1s (And.intro hrs hbs))
  clear hx1s hx2s hrs hbs hrow hb1 hM cc
  clear hW3
  go_wp2_with fail
  refine bodyPost_ret (v := .agg #[.int .i64 base, .int .i64 span, .int .i64 prod, .int .i64 epoch, .int .i64 seq, .slice B M.length d]) ?_ rfl ?_
  · exact cpb_result (W.heap.size + 1) (bset_box HS.out.1 _ _ _ _ _ _) _ rfl
  · exact ⟨M, B, d, HM.out, rfl, HS.out.2.1.bset HS.out.1 (by decide) (by decide) _ _ _ _ _ _, below_off HS.out.2.2 (bset_off _ _ _ _ _ _ _ _) (by omega)⟩
end Go.Proofs.YtmhamfhhojmeoaaDoor
