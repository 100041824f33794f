/- The document's letter, Words, Has, and the comparison of rows of texts. Condition: the texts' lengths; the tables of utf8. -/
import Derived.Test.YtmnmgbbdjpfonaaDoorMtTkWords
import Derived.Deep.RegionLaw
namespace Go.Proofs.YtmnmgbbdjpfonaaDoor
open Go.RowKit
set_option linter.unusedVariables false
theorem bs_at (L : List UInt8) (i : Nat) (h : i < (bs L).size) : ((bs L)[i]'h).toNat = TK.bt L i := by
  have h' : i < L.length := by rw [bs_size] at h; exact h
  unfold TK.bt
  rw [List.getD_eq_getElem?_getD, List.getElem?_eq_getElem h']
  rfl
set_option maxHeartbeats 4000000 in
set_option maxRecDepth 100000 in
theorem rletter_c (L : List UInt8) (i : Nat) (W : World) (hi : i < L.length) (hl : L.length ≤ 140737488351232) (hT : Tabs W) :
    Calls Tryd.prog 54 #[.string (bs L), .int .i64 i] W (Good W (.tuple #[.bool (TK.isL L i), .int .i64 (TK.wd L i)])) := by
  have hc := Tryd.utf8_DecodeRuneInString ((bs L).extract i (bs L).size) W hT
  rw [decodeGo_at L i hi] at hc
  have hz1 : (i : Int) ≤ ((bs L).size : Int) := by rw [bs_size]; omega
  have hz2 : (i : Int) < ((bs L).size : Int) := by rw [bs_size]; omega
  have hz3 : i < (bs L).size := by rw [bs_size]; omega
  have hat := bs_at L i hz3
  have hsz : (bs L).size ≤ 140737488351232 := by rw [bs_size]; exact hl
  have hw0 : 1 ≤ (TK.dec L i).2 := TK.wd_pos L i
  have hw4 : (TK.dec L i).2 ≤ 4 := (TK.decN_width _ _ _ _ _).2.1
  obtain ⟨res, hres⟩ : ∃ r, TK.isL L i = r := ⟨_, rfl⟩
  have HRES := Lib.hid hres
  rw [hres]
  unfold TK.isL at hres
  unfold TK.wd at hres ⊢
  by_cases hw : 1 < (TK.dec L i).2
  · have hr : res = true := by rw [← hres]; simp [hw]
    subst hr
    generalize (TK.dec L i).1 = c at *
    generalize (TK.dec L i).2 = w at *
    have hwI : (1 : Int) < (w : Int) := by omega
    clear hres HRES hat
    generalize bs L = S at *
    go_enter Tryd.func54, Tryd.ntmps54
    go_wp2_with ((with_reducible refine hc.mono ?_); rintro e w1 ⟨rfl, hb1⟩)
    go_ret2
    exact ⟨rfl, by assumption⟩
  · have hw1 : (TK.dec L i).2 = 1 := by omega
    rw [hw1] at hres hc ⊢
    generalize (TK.dec L i).1 = c at *
    have hd : ((1 : Int) < (1 : Int)) = False := by simp
    obtain ⟨m, hm⟩ : ∃ m, TK.bt L i = m := ⟨_, rfl⟩
    have hm2 : m < 256 := by rw [← hm]; exact TK.bt_lt _ _
    rw [hm] at hat hres
    have HR : Hid ((decide (1 < 1) || TK.asc m) = res) := Lib.hid hres
    clear hres hm hw hw1 HRES hw0 hw4
    generalize bs L = S at *
    go_enter Tryd.func54, Tryd.ntmps54
    go_wp2_with ((with_reducible refine hc.mono ?_); rintro e w1 ⟨rfl, hb1⟩)
    all_goals
      go_ret2
      refine ⟨?_, by assumption⟩
      rw [← HR.out]
      refine congrArg (fun b => Ending.returned (.tuple #[.bool b, .int .i64 1])) ?_
      rw [Bool.eq_iff_iff]
      unfold TK.asc
      simp only [Bool.or_eq_true, Bool.and_eq_true, decide_eq_true_eq, beq_iff_eq, true_iff]
      omega
structure RwAt (W : World) (L : List UInt8) (pos bg : Nat) (v : Value) (wr : World) : Prop where
  pos_le : pos ≤ L.length
  bg_le : bg ≤ pos
  row : ∃ pre : List (List UInt8), pre ++ (rest L pos bg).map TK.foldL = TK.words L ∧ wr.ownsRow W.heap.size 9 1 v pre.length (strC pre)
  bel : Below W.heap.size W wr
section
variable {W wr w' : World} {L : List UInt8} {pos bg : Nat} {v : Value}
theorem RwAt.later (h : RwAt W L pos bg v wr) (hb : Below wr.heap.size wr w') : RwAt W L pos bg v w' := by
  obtain ⟨pre, h1, h2⟩ := h.row
  exact ⟨h.pos_le, h.bg_le, ⟨pre, h1, own_below h2 hb⟩, h.bel.trans (hb.mono h.bel.size)⟩
theorem RwAt.on (h : RwAt W L pos bg v wr) (hlt : pos < L.length) (hl : TK.isL L pos = true) : RwAt W L (pos + TK.wd L pos) bg v wr := by
  obtain ⟨pre, h1, h2⟩ := h.row
  have := h.bg_le
  refine ⟨TK.wd_le L pos hlt, by omega, ⟨pre, ?_, h2⟩, h.bel⟩
  rw [← h1]
  unfold rest
  rw [TK.pcs_let bg hlt hl]
theorem RwAt.skip (h : RwAt W L pos bg v wr) (hlt : pos < L.length) (hl : TK.isL L pos = false) (hb : bg = pos) : RwAt W L (pos + 1) (pos + 1) v wr := by
  obtain ⟨pre, h1, h2⟩ := h.row
  refine ⟨hlt, Nat.le_refl _, ⟨pre, ?_, h2⟩, h.bel⟩
  rw [← h1]
  unfold rest
  rw [TK.pcs_non bg hlt hl, if_neg (by omega)]
  rfl
theorem RwAt.told (h : RwAt W L pos bg v wr) (hlt : pos < L.length) (hl : TK.isL L pos = false) (hb : bg < pos) : ∃ pre : List (List UInt8), (pre ++ [TK.foldL (TK.piece L bg pos)]) ++ (rest L (pos + 1) (pos + 1)).map TK.foldL = TK.words L ∧ wr.ownsRow W.heap.size 9 1 v pre.length (strC pre) := by
  obtain ⟨pre, h1, h2⟩ := h.row
  refine ⟨pre, ?_, h2⟩
  rw [← h1]
  unfold rest
  rw [TK.pcs_non bg hlt hl, if_pos hb]
  simp
theorem RwAt.ends (h : RwAt W L pos bg v wr) (hlt : ¬ pos < L.length) : (bg = L.length → wr.ownsRow W.heap.size 9 1 v (TK.words L).length (strC (TK.words L))) ∧
    (bg < L.length → ∃ pre : List (List UInt8), pre ++ [TK.foldL (TK.piece L bg L.length)] = TK.words L ∧ wr.ownsRow W.heap.size 9 1 v pre.length (strC pre)) := by
  obtain ⟨pre, h1, h2⟩ := h.row
  unfold rest at h1
  rw [TK.pcs_end bg hlt] at h1
  refine ⟨fun e => ?_, fun e => ⟨pre, ?_, h2⟩⟩
  · rw [if_neg (by omega)] at h1
    rw [← h1]
    simpa using h2
  · rw [if_pos e] at h1
    exact h1
theorem words_pre {pre : List (List UInt8)} {x : List UInt8} {r : List (List UInt8)} (h : (pre ++ [x]) ++ r = TK.words L) : pre.length < L.length := by
  have h1 := TK.words_count L
  have h3 := congrArg List.length h
  simp at h3
  omega
end
/-- A row of texts of the call's own. -/
def RowOut (W : World) (l : List (List UInt8)) (e : Ending) (W' : World) : Prop := ∃ v, e = .returned v ∧ W'.ownsRow W.heap.size 9 1 v l.length (strC l) ∧ Below W.heap.size W W'
theorem strC_snoc (pre : List (List UInt8)) (x : List UInt8) : strC (pre ++ [x]) = strC pre ++ [.string (bs x)] := by simp [strC]
set_option maxHeartbeats 4000000 in
set_option maxRecDepth 100000 in
theorem rwords_c (L : List UInt8) (hl : L.length ≤ 8000000000) (W : World) (hT : Tabs W) :
    Calls Tryd.prog 47 #[.string (bs L)] W (RowOut W (TK.words L)) := by
  obtain ⟨i0, hq, hq0, hq1, hq2⟩ := info_parts strInfo
  have H0 : Hid (RwAt W L 0 0 (.slice none 0 0) W) := Lib.hid ⟨Nat.zero_le _, Nat.le_refl _, ⟨[], by simp [rest, TK.words], World.ownsRow_nil _ _ _ _⟩, Below.refl _ _⟩
  go_enter Tryd.func47, Tryd.ntmps47
  go_wp2
  go_loopw [3, 4, 5] (fun out at' from' wr => ∃ pos bg : Nat, at' = .int .i64 pos ∧ ((from' = .int .i64 bg ∧ bg < pos) ∨ (from' = .int .i64 (-1) ∧ bg = pos)) ∧ RwAt W L pos bg out wr) (fun _ at' _ _ => L.length - (intOf at').toNat)
  case atStart => exact ⟨0, 0, rfl, .inr ⟨rfl, rfl⟩, H0.out⟩
  case round =>
    obtain ⟨pos, bg, rfl, hfrom, hR⟩ := hrel
    clear H0
    have hbl := hR.bg_le
    have hpl := hR.pos_le
    have hT2 := hT.below hR.bel
    by_cases hlt : pos < L.length
    · have cl := rletter_c L pos wr hlt (by omega) hT2
      have hz1 : (pos : Int) < ((bs L).size : Int) := by rw [bs_size]; omega
      have hw1 := TK.wd_pos L pos
      have hw2 := TK.wd_le L pos hlt
      have HR := Lib.hid hR
      obtain ⟨n, hn⟩ : ∃ n, TK.wd L pos = n := ⟨_, rfl⟩
      rw [hn] at cl hw1 hw2
      have HN := Lib.hid hn
      clear hR hT2 hn
      cases hlet : TK.isL L pos with
      | true =>
        rw [hlet] at cl
        have HL := Lib.hid hlet
        clear hlet
        rcases hfrom with ⟨rfl, hb⟩ | ⟨rfl, rfl⟩
        · have hb0 : (0 : Int) ≤ (bg : Int) := by omega
          go_wp2_with ((with_reducible refine cl.mono ?_); rintro e w2 ⟨rfl, hb2⟩; (have HX := Lib.hid ((HR.out.later hb2).on hlt HL.out)); clear hb2)
          go_roundw
          case rel => exact ⟨pos + n, bg, by go_num, .inl ⟨rfl, by omega⟩, HN.out ▸ HX.out⟩
          case measure => simp [intOf]; omega
        · go_wp2_with ((with_reducible refine cl.mono ?_); rintro e w2 ⟨rfl, hb2⟩; (have HX := Lib.hid ((HR.out.later hb2).on hlt HL.out)); clear hb2)
          go_roundw
          case rel => exact ⟨bg + n, bg, by go_num, .inl ⟨rfl, by omega⟩, HN.out ▸ HX.out⟩
          case measure => simp [intOf]; omega
      | false =>
        rw [hlet] at cl
        have hn1 := TK.isL_no hlet
        rw [HN.out] at hn1
        subst hn1
        have HL := Lib.hid hlet
        clear hlet
        rcases hfrom with ⟨rfl, hb⟩ | ⟨rfl, rfl⟩
        · have hb0 : (0 : Int) ≤ (bg : Int) := by omega
          have hb1 : (bg : Int) ≤ (pos : Int) := by omega
          have hz4 : (pos : Int) ≤ ((bs L).size : Int) := by omega
          have hexx := bs_extract L bg pos
          have cf := fun w => fold_c (TK.piece L bg pos) w (by have := piece_le L bg pos; omega)
          have cfr := fun w => rfold_c (TK.piece L bg pos) w (by have := piece_le L bg pos; omega)
          rw [← hexx] at cfr
          clear hexx cf
          go_wp2_with fail
          (with_reducible refine cl.mono ?_)
          rintro e w2 ⟨rfl, hb2⟩
          have H2 := Lib.hid (HR.out.later hb2)
          clear hb2
          go_wp2_with fail
          (with_reducible refine (cfr _).mono ?_)
          rintro e w3 ⟨rfl, hb3⟩
          obtain ⟨pre, hp, hrow⟩ := (H2.out.later hb3).told hlt HL.out hb
          have H3 := Lib.hid (H2.out.later hb3)
          have HP := Lib.hid hp
          have hpl2 := words_pre hp
          have hs3 := (H2.out.later hb3).bel.size
          clear hb3 hp cfr cl
          go_wp2_with (at_builtin; refine wpList_append_own_at _ rfl _ _ 64 rfl W.heap.size 9 i0 (.string ⟨#[]⟩) 1 16 Tryd.underlying64 hq hq0 hq1 hq2 rfl (by decide) _ pre.length (strC pre) rfl (hrow.alloc _) ⟨w3.heap.size, 0, none⟩ 1 1 [.string (bs (TK.foldL (TK.piece L bg pos)))] rfl rfl (cell_one_new _ _ _) (by simp [Value.oneCell']) (by unfold maxLen; omega) (by omega) (by rw [World.size_alloc]; omega) ?_; intro v' w4 hown' hgrow _ _; (have HO := Lib.hid hown'); (have HB := Lib.hid ((H3.out.bel.alloc H3.out.bel.size _).grown hgrow (by rw [World.size_alloc]; omega) (fun k e => (hrow.lt k e).1))); clear hown' hgrow)
          go_roundw
          case rel => exact ⟨pos + 1, pos + 1, by go_num, .inr ⟨rfl, rfl⟩, ⟨hlt, Nat.le_refl _, ⟨_, HP.out, by rw [strC_snoc, List.length_append]; exact HO.out⟩, HB.out⟩⟩
          case measure => simp [intOf]; omega
        · go_wp2_with ((with_reducible refine cl.mono ?_); rintro e w2 ⟨rfl, hb2⟩; (have HX := Lib.hid ((HR.out.later hb2).skip hlt HL.out rfl)); clear hb2)
          go_roundw
          case rel => exact ⟨bg + 1, bg + 1, by go_num, .inr ⟨rfl, rfl⟩, HX.out⟩
          case measure => simp [intOf]; omega
    · have HE := Lib.hid (hR.ends hlt)
      have HB := Lib.hid hR.bel
      obtain rfl : pos = L.length := by omega
      have hz3 : ((bs L).size : Int) ≤ (L.length : Int) := by rw [bs_size]; omega
      have hz5 : (L.length : Int) = ((bs L).size : Int) := by rw [bs_size]
      have HZ := Lib.hid hz5
      clear hR hz5 hT2
      rcases hfrom with ⟨rfl, hb⟩ | ⟨rfl, rfl⟩
      · have hb0 : (0 : Int) ≤ (bg : Int) := by omega
        have hz4 : (bg : Int) ≤ ((bs L).size : Int) := by rw [bs_size]; omega
        have hexx := bs_extract L bg L.length
        have hyy : (bs L).extract bg (bs L).size = (bs L).extract bg L.length := by rw [bs_size]
        have cfr := fun w => rfold_c (TK.piece L bg L.length) w (by have := piece_le L bg L.length; omega)
        rw [← hexx, ← hyy] at cfr
        clear hexx hyy
        go_wp2_with fail
        (with_reducible refine (cfr _).mono ?_)
        rintro e w3 ⟨rfl, hb3⟩
        obtain ⟨pre, hp, hrow0⟩ := HE.out.2 hb
        have hrow := own_below hrow0 hb3
        have hbel3 := HB.out.trans (hb3.mono HB.out.size)
        have hs3 := hbel3.size
        have H3 := Lib.hid hbel3
        have HP := Lib.hid hp
        have hpl2 := words_pre (r := []) (by rw [List.append_nil]; exact hp)
        clear hb3 hp cfr hrow0 hbel3
        go_wp2_with (at_builtin; refine wpList_append_own_at _ rfl _ _ 64 rfl W.heap.size 9 i0 (.string ⟨#[]⟩) 1 16 Tryd.underlying64 hq hq0 hq1 hq2 rfl (by decide) _ pre.length (strC pre) rfl (hrow.alloc _) ⟨w3.heap.size, 0, none⟩ 1 1 [.string (bs (TK.foldL (TK.piece L bg L.length)))] rfl rfl (cell_one_new _ _ _) (by simp [Value.oneCell']) (by unfold maxLen; omega) (by omega) (by rw [World.size_alloc]; omega) ?_; intro v' w4 hown' hgrow _ _; (have HO := Lib.hid hown'); (have HB4 := Lib.hid ((H3.out.alloc H3.out.size _).grown hgrow (by rw [World.size_alloc]; omega) (fun k e => (hrow.lt k e).1))); clear hown' hgrow)
        go_ret
        refine ⟨_, rfl, ?_, HB4.out⟩
        rw [← HP.out, strC_snoc, List.length_append]
        exact HO.out
      · go_wp2
        go_ret
        exact ⟨_, rfl, HE.out.1 trivial, HB.out⟩
end Go.Proofs.YtmnmgbbdjpfonaaDoor
