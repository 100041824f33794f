/- clean: copied, the same, few: by contracts. No condition but that they are not too many. -/
import Derived.Test.YtdclkhbolmbnmaaDoorClA
import Derived.RegionTactic
import Derived.BigQuiet
import Derived.Deep.QuietTactic
import Derived.Deep.DeepCutAuto
import Derived.Maps.AppendAt
import Derived.Deep.RegionHeld3
import Derived.Laws.StructEq
namespace Go.Proofs.YtdclkhbolmbnmaaDoor
open Go.RowKit
set_option linter.unusedVariables false
/-- A copy of a record: the same fields, its headers in new memory. -/
def Copied (W : World) (r : Rec) (e : Ending) (w' : World) : Prop := ∃ A c, e = .returned (recV r A c) ∧ w'.ownsRow W.heap.size 62 2 (.slice A r.heads.length c) r.heads.length (headCells r.heads) ∧ Below W.heap.size W w'
theorem copy_result {w : World} (g : Nat) {v0 v1 v2 v3 v4 v5 v6 : Value} (h : Box w g 39 #[v0, v1, v2, v3, v4, v5, v6]) (tmps : Array Value) (ht : (tmps[2]?).getD undef = .pointer (some ⟨g, 0, none⟩)) :
    (results Tryd.f33 tmps).run Tryd.prog w = .ok (.agg #[v0, v1, v2, v3, v4, v5, v6]) w := by
  have c0 := (h.cell 0).trans (show _ = some v0 from rfl)
  have c1 := (h.cell 1).trans (show _ = some v1 from rfl)
  have c2 := (h.cell 2).trans (show _ = some v2 from rfl)
  have c3 := (h.cell 3).trans (show _ = some v3 from rfl)
  have c4 := (h.cell 4).trans (show _ = some v4 from rfl)
  have c5 := (h.cell 5).trans (show _ = some v5 from rfl)
  have c6 := (h.cell 6).trans (show _ = some v6 from rfl)
  simp [results, Tryd.results33, go_sem, ht, c0, c1, c2, c3, c4, c5, c6]
set_option maxHeartbeats 2000000 in
set_option maxRecDepth 100000 in
theorem rcopy_c (r : Rec) (A : Option Addr) (c : Nat) (W : World) (hR : RIn W r A c) (hc : r.heads.length ≤ 1000) :
    Calls Tryd.prog 33 #[recV r A c] W (Copied W r) := by
  obtain ⟨place, time, bare, key, gone, value, heads⟩ := r
  have HH := Lib.hid hR.heads
  simp only at HH
  clear hR
  unfold recV recC
  simp only at *
  have HB2 := Lib.hid ((Box.new ((W.alloc (.cells #[.int .i64 place, .int .i64 time, .bool bare, .string key, .bool gone, .string value, .slice A heads.length c] 39)).alloc (.cells #[.int .i64 0, .int .i64 0, .bool false, .string ⟨#[]⟩, .bool false, .string ⟨#[]⟩, .slice none 0 0] 39)) 39 #[.int .i64 place, .int .i64 time, .bool bare, .string key, .bool gone, .string value, .slice none 0 0]))
  have HB1 := Lib.hid ((Box.new (W.alloc (.cells #[.int .i64 place, .int .i64 time, .bool bare, .string key, .bool gone, .string value, .slice A heads.length c] 39)) 39 #[.int .i64 0, .int .i64 0, .bool false, .string ⟨#[]⟩, .bool false, .string ⟨#[]⟩, .slice none 0 0]).alloc (.cells #[.int .i64 place, .int .i64 time, .bool bare, .string key, .bool gone, .string value, .slice none 0 0] 39))
  have hbel := Lib.hid ((((Below.refl W.heap.size W).alloc (Nat.le_refl _) (.cells #[.int .i64 place, .int .i64 time, .bool bare, .string key, .bool gone, .string value, .slice A heads.length c] 39)).alloc (by simp) (.cells #[.int .i64 0, .int .i64 0, .bool false, .string ⟨#[]⟩, .bool false, .string ⟨#[]⟩, .slice none 0 0] 39)).alloc (by simp; omega) (.cells #[.int .i64 place, .int .i64 time, .bool bare, .string key, .bool gone, .string value, .slice none 0 0] 39))
  simp only [World.size_alloc] at HB1 HB2
  obtain ⟨i0, hi, hz0, hz1, hz2⟩ := info_parts infoHeader
  cases A with
  | none =>
    have hnil : heads = [] := by
      cases heads with
      | nil => rfl
      | cons x l =>
        obtain ⟨b, off, e, _⟩ := HH.out (by simp)
        cases e
    subst hnil
    go_enter Tryd.func33, Tryd.ntmps33
    have happ : ∀ w : World, (Builtin.append_ #[37, 37] 37 #[.slice none 0 0, .slice none 0 c]).run Tryd.prog w = .ok (.slice none 0 0) w := fun w => by
      simp [Builtin.append_, run_underlying Tryd.underlying37, sizeOf, typeInfo, hi, Builtin.lenOf, Builtin.firstCells]
    go_wp2
    refine bodyPost_ret (v := .agg #[.int .i64 place, .int .i64 time, .bool bare, .string key, .bool gone, .string value, .slice none 0 0]) (by simp [results, Tryd.results33, go_sem]) rfl ⟨none, 0, rfl, World.ownsRow_nil _ _ _ _, ?_⟩
    exact (((Below.refl _ _).alloc (Nat.le_refl _) _).alloc (by simp) _).alloc (by simp; omega) _
  | some a =>
    have hnews : Hid (∀ j u, (headCells heads)[j]? = some u → ((((W.alloc (.cells #[.int .i64 place, .int .i64 time, .bool bare, .string key, .bool gone, .string value, .slice (some a) heads.length c] 39)).alloc (.cells #[.int .i64 0, .int .i64 0, .bool false, .string ⟨#[]⟩, .bool false, .string ⟨#[]⟩, .slice none 0 0] 39)).alloc (.cells #[.int .i64 place, .int .i64 time, .bool bare, .string key, .bool gone, .string value, .slice none 0 0] 39))).cell? (a.add j) = some u) := Lib.hid (by
      intro j u hj
      have hl : j < (headCells heads).length := (List.getElem?_eq_some_iff.1 hj).1
      rw [headCells_len] at hl
      obtain ⟨b, off, e, hb, _⟩ := HH.out (by omega)
      injection e with e
      subst e
      exact hin_cells (HH.out.below ((((Below.refl _ _).alloc (Nat.le_refl _) _).alloc (by simp) _).alloc (by simp; omega) _)) j u hj)
    have hlen := headCells_len heads
    have HLN := Lib.hid hlen
    clear hlen
    go_enter Tryd.func33, Tryd.ntmps33
    go_wp2_with (at_builtin; refine wpList_append_own _ rfl _ _ 37 rfl W.heap.size 62 i0 (.agg #[.string ⟨#[]⟩, .string ⟨#[]⟩]) 2 32 Tryd.underlying37 hi hz0 hz1 hz2 rfl (by decide) _ _ _ rfl (World.ownsRow_nil _ _ _ _) a heads.length c (headCells heads) rfl HLN.out hnews.out ?c2 ?c3 ?c4 ?c5 ?_)
    case c2 => exact headCells_one heads
    case c3 => unfold maxLen; omega
    case c4 => omega
    case c5 => simp; omega
    intro v' w1 hown hgrow _
    obtain ⟨A1, c1, hv⟩ := own_slice hown
    subst hv
    have B1 := Lib.hid (HB1.out.kept_by hgrow (.inl rfl))
    have B2 := Lib.hid (HB2.out.kept_by hgrow (.inl rfl))
    have hb1 := Lib.hid (hbel.out.grown hgrow (by simp; omega) (fun k hk => by cases hk))
    have HO := Lib.hid hown
    clear hown hgrow
    have y0 : w1.cell? ⟨W.heap.size + 1 + 1, 0, none⟩ = some (.int .i64 place) := (B2.out.cell 0).trans rfl
    have y1 : w1.cell? ⟨W.heap.size + 1 + 1, 1, none⟩ = some (.int .i64 time) := (B2.out.cell 1).trans rfl
    have y2 : w1.cell? ⟨W.heap.size + 1 + 1, 2, none⟩ = some (.bool bare) := (B2.out.cell 2).trans rfl
    have y3 : w1.cell? ⟨W.heap.size + 1 + 1, 3, none⟩ = some (.string key) := (B2.out.cell 3).trans rfl
    have y4 : w1.cell? ⟨W.heap.size + 1 + 1, 4, none⟩ = some (.bool gone) := (B2.out.cell 4).trans rfl
    have y5 : w1.cell? ⟨W.heap.size + 1 + 1, 5, none⟩ = some (.string value) := (B2.out.cell 5).trans rfl
    have y6 : w1.cell? ⟨W.heap.size + 1 + 1, 6, none⟩ = some (.slice none 0 0) := (B2.out.cell 6).trans rfl
    have r0 : w1.cell? ⟨W.heap.size + 1, 0, none⟩ = some (.int .i64 0) := (B1.out.cell 0).trans rfl
    have g0 := B1.out.frozen 0
    have r1 : w1.cell? ⟨W.heap.size + 1, 1, none⟩ = some (.int .i64 0) := (B1.out.cell 1).trans rfl
    have g1 := B1.out.frozen 1
    have r2 : w1.cell? ⟨W.heap.size + 1, 2, none⟩ = some (.bool false) := (B1.out.cell 2).trans rfl
    have g2 := B1.out.frozen 2
    have r3 : w1.cell? ⟨W.heap.size + 1, 3, none⟩ = some (.string ⟨#[]⟩) := (B1.out.cell 3).trans rfl
    have g3 := B1.out.frozen 3
    have r4 : w1.cell? ⟨W.heap.size + 1, 4, none⟩ = some (.bool false) := (B1.out.cell 4).trans rfl
    have g4 := B1.out.frozen 4
    have r5 : w1.cell? ⟨W.heap.size + 1, 5, none⟩ = some (.string ⟨#[]⟩) := (B1.out.cell 5).trans rfl
    have g5 := B1.out.frozen 5
    have r6 : w1.cell? ⟨W.heap.size + 1, 6, none⟩ = some (.slice none 0 0) := (B1.out.cell 6).trans rfl
    have g6 := B1.out.frozen 6
    have f6 := B2.out.frozen 6
    have y0b : (w1.setCell ⟨W.heap.size + 1 + 1, 6, none⟩ (.slice A1 heads.length c1)).cell? ⟨W.heap.size + 1 + 1, 0, none⟩ = some (.int .i64 place) := ((B2.out.set 6 (.slice A1 heads.length c1)).cell 0).trans rfl
    have y1b : (w1.setCell ⟨W.heap.size + 1 + 1, 6, none⟩ (.slice A1 heads.length c1)).cell? ⟨W.heap.size + 1 + 1, 1, none⟩ = some (.int .i64 time) := ((B2.out.set 6 (.slice A1 heads.length c1)).cell 1).trans rfl
    have y2b : (w1.setCell ⟨W.heap.size + 1 + 1, 6, none⟩ (.slice A1 heads.length c1)).cell? ⟨W.heap.size + 1 + 1, 2, none⟩ = some (.bool bare) := ((B2.out.set 6 (.slice A1 heads.length c1)).cell 2).trans rfl
    have y3b : (w1.setCell ⟨W.heap.size + 1 + 1, 6, none⟩ (.slice A1 heads.length c1)).cell? ⟨W.heap.size + 1 + 1, 3, none⟩ = some (.string key) := ((B2.out.set 6 (.slice A1 heads.length c1)).cell 3).trans rfl
    have y4b : (w1.setCell ⟨W.heap.size + 1 + 1, 6, none⟩ (.slice A1 heads.length c1)).cell? ⟨W.heap.size + 1 + 1, 4, none⟩ = some (.bool gone) := ((B2.out.set 6 (.slice A1 heads.length c1)).cell 4).trans rfl
    have y5b : (w1.setCell ⟨W.heap.size + 1 + 1, 6, none⟩ (.slice A1 heads.length c1)).cell? ⟨W.heap.size + 1 + 1, 5, none⟩ = some (.string value) := ((B2.out.set 6 (.slice A1 heads.length c1)).cell 5).trans rfl
    have y6b : (w1.setCell ⟨W.heap.size + 1 + 1, 6, none⟩ (.slice A1 heads.length c1)).cell? ⟨W.heap.size + 1 + 1, 6, none⟩ = some (.slice A1 heads.length c1) := ((B2.out.set 6 (.slice A1 heads.length c1)).cell 6).trans rfl
    have r0b : (w1.setCell ⟨W.heap.size + 1 + 1, 6, none⟩ (.slice A1 heads.length c1)).cell? ⟨W.heap.size + 1, 0, none⟩ = some (.int .i64 0) := ((B1.out.far (p := ⟨W.heap.size + 1 + 1, 6, none⟩) (Nat.ne_of_lt (Nat.lt_succ_self _)) (.slice A1 heads.length c1)).cell 0).trans rfl
    have g0b := (B1.out.far (p := ⟨W.heap.size + 1 + 1, 6, none⟩) (Nat.ne_of_lt (Nat.lt_succ_self _)) (.slice A1 heads.length c1)).frozen 0
    have r1b : (w1.setCell ⟨W.heap.size + 1 + 1, 6, none⟩ (.slice A1 heads.length c1)).cell? ⟨W.heap.size + 1, 1, none⟩ = some (.int .i64 0) := ((B1.out.far (p := ⟨W.heap.size + 1 + 1, 6, none⟩) (Nat.ne_of_lt (Nat.lt_succ_self _)) (.slice A1 heads.length c1)).cell 1).trans rfl
    have g1b := (B1.out.far (p := ⟨W.heap.size + 1 + 1, 6, none⟩) (Nat.ne_of_lt (Nat.lt_succ_self _)) (.slice A1 heads.length c1)).frozen 1
    have r2b : (w1.setCell ⟨W.heap.size + 1 + 1, 6, none⟩ (.slice A1 heads.length c1)).cell? ⟨W.heap.size + 1, 2, none⟩ = some (.bool false) := ((B1.out.far (p := ⟨W.heap.size + 1 + 1, 6, none⟩) (Nat.ne_of_lt (Nat.lt_succ_self _)) (.slice A1 heads.length c1)).cell 2).trans rfl
    have g2b := (B1.out.far (p := ⟨W.heap.size + 1 + 1, 6, none⟩) (Nat.ne_of_lt (Nat.lt_succ_self _)) (.slice A1 heads.length c1)).frozen 2
    have r3b : (w1.setCell ⟨W.heap.size + 1 + 1, 6, none⟩ (.slice A1 heads.length c1)).cell? ⟨W.heap.size + 1, 3, none⟩ = some (.string ⟨#[]⟩) := ((B1.out.far (p := ⟨W.heap.size + 1 + 1, 6, none⟩) (Nat.ne_of_lt (Nat.lt_succ_self _)) (.slice A1 heads.length c1)).cell 3).trans rfl
    have g3b := (B1.out.far (p := ⟨W.heap.size + 1 + 1, 6, none⟩) (Nat.ne_of_lt (Nat.lt_succ_self _)) (.slice A1 heads.length c1)).frozen 3
    have r4b : (w1.setCell ⟨W.heap.size + 1 + 1, 6, none⟩ (.slice A1 heads.length c1)).cell? ⟨W.heap.size + 1, 4, none⟩ = some (.bool false) := ((B1.out.far (p := ⟨W.heap.size + 1 + 1, 6, none⟩) (Nat.ne_of_lt (Nat.lt_succ_self _)) (.slice A1 heads.length c1)).cell 4).trans rfl
    have g4b := (B1.out.far (p := ⟨W.heap.size + 1 + 1, 6, none⟩) (Nat.ne_of_lt (Nat.lt_succ_self _)) (.slice A1 heads.length c1)).frozen 4
    have r5b : (w1.setCell ⟨W.heap.size + 1 + 1, 6, none⟩ (.slice A1 heads.length c1)).cell? ⟨W.heap.size + 1, 5, none⟩ = some (.string ⟨#[]⟩) := ((B1.out.far (p := ⟨W.heap.size + 1 + 1, 6, none⟩) (Nat.ne_of_lt (Nat.lt_succ_self _)) (.slice A1 heads.length c1)).cell 5).trans rfl
    have g5b := (B1.out.far (p := ⟨W.heap.size + 1 + 1, 6, none⟩) (Nat.ne_of_lt (Nat.lt_succ_self _)) (.slice A1 heads.length c1)).frozen 5
    have r6b : (w1.setCell ⟨W.heap.size + 1 + 1, 6, none⟩ (.slice A1 heads.length c1)).cell? ⟨W.heap.size + 1, 6, none⟩ = some (.slice none 0 0) := ((B1.out.far (p := ⟨W.heap.size + 1 + 1, 6, none⟩) (Nat.ne_of_lt (Nat.lt_succ_self _)) (.slice A1 heads.length c1)).cell 6).trans rfl
    have g6b := (B1.out.far (p := ⟨W.heap.size + 1 + 1, 6, none⟩) (Nat.ne_of_lt (Nat.lt_succ_self _)) (.slice A1 heads.length c1)).frozen 6
    have BX := Lib.hid (B1.out.far (p := ⟨W.heap.size + 1 + 1, 6, none⟩) (Nat.ne_of_lt (Nat.lt_succ_self _)) (.slice A1 heads.length c1))
    have HO3 := Lib.hid (own_off (own_set HO.out B2.out (by decide) 6 (.slice A1 heads.length c1)).1 (set7_off _ (W.heap.size + 1) (.int .i64 place) (.int .i64 time) (.bool bare) (.string key) (.bool gone) (.string value) (.slice A1 heads.length c1)) (own_ne (own_set HO.out B2.out (by decide) 6 (.slice A1 heads.length c1)).1 BX.out (by decide)))
    go_wp2
    refine bodyPost_ret (v := .agg #[.int .i64 place, .int .i64 time, .bool bare, .string key, .bool gone, .string value, .slice A1 heads.length c1]) ?_ rfl ⟨A1, c1, rfl, HO3.out, ?_⟩
    · exact copy_result (W.heap.size + 1) (set7_box BX.out _ _ _ _ _ _ _) _ rfl
    · have hz := hb1.out.size
      have h2 := hb1.out.setCell (p := ⟨W.heap.size + 1 + 1, 6, none⟩) (by show W.heap.size ≤ W.heap.size + 1 + 1; omega) (.slice A1 heads.length c1)
      exact h2.trans ((set7_off _ (W.heap.size + 1) _ _ _ _ _ _ _).below h2.size (fun k hk => by omega))
/-- A copy of a list: the same records, in new memory. -/
def CopiedAll (W : World) (L : List RX) (en : Ending) (w' : World) : Prop := ∃ (M : List RX) (A : Option Addr) (c : Nat), M.map (·.1) = L.map (·.1) ∧ en = .returned (.slice A M.length c) ∧ RowR w' W.heap.size (.slice A M.length c) M ∧ Below W.heap.size W w'
structure CpS (W : World) (L : List RX) (k : Nat) (A : Option Addr) (c : Nat) (M : List RX) (w : World) : Prop where
  row : RowR w W.heap.size (.slice A M.length c) M
  bel : Below W.heap.size W w
  same : M.map (·.1) = (L.map (·.1)).take k
  len : M.length = k
theorem CpS.next {W w' : World} {L M : List RX} {k c c' : Nat} {A A' : Option Addr} {w : World} {x y : RX} (h : CpS W L k A c M w) (hx : L[k]? = some x) (hy : y.1 = x.1) (hr : RowR w' W.heap.size (.slice A' (M.length + 1) c') (M ++ [y])) (hb : Below W.heap.size W w') : CpS W L (k + 1) A' c' (M ++ [y]) w' := by
  obtain ⟨hk, he⟩ := List.getElem?_eq_some_iff.1 hx
  refine ⟨by rw [List.length_append]; exact hr, hb, ?_, by rw [List.length_append, h.len]; rfl⟩
  rw [List.take_succ_eq_append_getElem (by rw [List.length_map]; exact hk), List.map_append, h.same]
  simp [he, hy]
set_option maxHeartbeats 16000000 in
set_option maxRecDepth 100000 in
theorem rcopyAll_c (L : List RX) (A : Option Addr) (c : Nat) (W : World) (hA : RsIn W A L) (h50 : L.length ≤ 1000) (hh : ∀ x ∈ L, x.1.heads.length ≤ 1000) :
    Calls Tryd.prog 18 #[.slice A L.length c] W (CopiedAll W L) := by
  have H0 : Hid (CpS W L 0 none 0 [] W) := Lib.hid ⟨RowR.nil _ _, Below.refl _ _, rfl, rfl⟩
  have HA := Lib.hid hA
  clear hA
  obtain ⟨i0, hi, hz0, hz1, hz2⟩ := info_parts recInfo
  go_enter Tryd.func18, Tryd.ntmps18
  go_wp2_with fail
  go_loopw [3, 4] (fun l i wr => ∃ (k : Nat) (M : List RX) (B : Option Addr) (d : Nat), i = .int .i64 k ∧ k ≤ L.length ∧ l = .slice B M.length d ∧ CpS W L k B d M wr) (fun _ i _ => L.length - (intOf i).toNat)
  case atStart => exact ⟨0, [], none, 0, rfl, Nat.zero_le _, rfl, H0.out⟩
  case round =>
    obtain ⟨k, M, B, d, rfl, hkl, rfl, hS⟩ := hrel
    clear H0
    by_cases hk : k < L.length
    · obtain ⟨x, hx⟩ : ∃ x, L[k]? = some x := ⟨_, List.getElem?_eq_getElem hk⟩
      obtain ⟨b, off, rfl, hbl, hca⟩ := (HA.out.below hS.bel) (by omega)
      obtain ⟨⟨x0, x1, x2, x3, x4, x5, x6⟩, hR⟩ := hca k x hx
      have hxl := hh x (List.mem_of_getElem? hx)
      have HN := Lib.hid (fun w' A' c' (y : RX) => hS.next (w' := w') (A' := A') (c' := c') (y := y) hx)
      have HS := Lib.hid hS
      have HML := Lib.hid (show M.length ≤ 1000 by rw [hS.len]; omega)
      obtain ⟨r, A1, c1⟩ := x
      have cc := rcopy_c r A1 c1 wr hR hxl
      obtain ⟨place, time, bare, key, gone, value, heads⟩ := r
      unfold Copied recV recC at cc
      simp only at cc
      have hki : (k : Int) < (L.length : Int) := by omega
      clear hca hx hS hR hbl
      go_wp2_with fail
      (with_reducible refine cc.mono ?_)
      rintro en w1 ⟨A2, c2, rfl, hown, hb1⟩
      have hsz1 := HS.out.bel.size
      have hal2 : Below w1.heap.size w1 (w1.alloc (.cells #[.int .i64 place, .int .i64 time, .bool bare, .string key, .bool gone, .string value, .slice A2 heads.length c2] 39)) := (Below.refl _ _).alloc (Nat.le_refl _) _
      have HV2 := Lib.hid (And.intro ((HS.out.row.later hb1).later hal2) (And.intro (own_below (own_base hown hsz1) hal2) ((HS.out.bel.trans (hb1.mono hsz1)).trans (hal2.mono (Nat.le_trans hsz1 hb1.size)))))
      have hrow2 := HV2.out.1.row
      have hnews := news_at (Box.new w1 39 (recC ⟨place, time, bare, key, gone, value, heads⟩ A2 c2))
      have hone := rec_one ⟨place, time, bare, key, gone, value, heads⟩ A2 c2
      have hsz2 := HV2.out.2.2.size
      unfold recC at hnews hone
      simp only at hnews hone
      have HNW := Lib.hid (And.intro hnews hone)
      clear hal2 hnews hone hown hb1 cc
      go_wp2_with (at_builtin; refine wpList_append_own_at _ rfl _ _ 27 rfl W.heap.size 39 i0 _ 7 88 Tryd.underlying27 hi hz0 hz1 hz2 recC_zero (by decide) (.slice B M.length d) M.length (recsC M) rfl hrow2 ⟨w1.heap.size, 0, none⟩ 1 1 [.int .i64 place, .int .i64 time, .bool bare, .string key, .bool gone, .string value, .slice A2 heads.length c2] rfl rfl HNW.out.1 HNW.out.2 (by have := HML.out; unfold maxLen; omega) (by have := HML.out; omega) hsz2 ?_)
      intro v' w2 hown' hgrow _ _
      obtain ⟨g', cap', rfl⟩ : ∃ g' cap', v' = .slice (some ⟨g', 0, none⟩) (M.length + 1) cap' := by
        rcases hown'.2 with ⟨_, h0⟩ | ⟨g, cap, cur, hv, _⟩
        · omega
        · exact ⟨g, cap, hv⟩
      have HB2 := Lib.hid (HV2.out.2.2.grown hgrow hsz2 (fun j e => (hrow2.lt j e).1))
      have HR2 := Lib.hid (HV2.out.1.grow (x := (⟨place, time, bare, key, gone, value, heads⟩, A2, c2)) HV2.out.2.1 hown' hgrow)
      clear hown' hgrow hrow2
      go_wp2
      go_roundw
      case rel =>
        refine ⟨k + 1, M ++ [(⟨place, time, bare, key, gone, value, heads⟩, A2, c2)], some ⟨g', 0, none⟩, cap', by go_num, hk, ?_, HN.out _ _ _ _ rfl HR2.out HB2.out⟩
        rw [List.length_append]; rfl
      case measure => simp [intOf]; omega
    · have hF : M.map (·.1) = L.map (·.1) := by rw [hS.same, List.take_of_length_le (by rw [List.length_map]; omega)]
      have HF := Lib.hid (And.intro hF hS)
      clear hF hS
      go_wp2
      go_ret
      exact ⟨M, B, d, HF.out.1, rfl, HF.out.2.row, HF.out.2.bel⟩
/-- A copy of a batch. -/
def CopiedB (W : World) (b : BN) (L : List RX) (en : Ending) (w' : World) : Prop := ∃ (M : List RX) (A : Option Addr) (c : Nat), M.map (·.1) = L.map (·.1) ∧ en = .returned (.agg (bnC b (.slice A M.length c))) ∧ RowR w' W.heap.size (.slice A M.length c) M ∧ Below W.heap.size W w'
theorem cpb_result {w : World} (g : Nat) {v0 v1 v2 v3 v4 v5 : Value} (h : Box w g 29 #[v0, v1, v2, v3, v4, v5]) (tmps : Array Value) (ht : (tmps[2]?).getD undef = .pointer (some ⟨g, 0, none⟩)) :
    (results Tryd.f8 tmps).run Tryd.prog w = .ok (.agg #[v0, v1, v2, v3, v4, v5]) w := by
  have c0 := (h.cell 0).trans (show _ = some v0 from rfl)
  have c1 := (h.cell 1).trans (show _ = some v1 from rfl)
  have c2 := (h.cell 2).trans (show _ = some v2 from rfl)
  have c3 := (h.cell 3).trans (show _ = some v3 from rfl)
  have c4 := (h.cell 4).trans (show _ = some v4 from rfl)
  have c5 := (h.cell 5).trans (show _ = some v5 from rfl)
  simp [results, Tryd.results8, go_sem, ht, c0, c1, c2, c3, c4, c5]
set_option maxHeartbeats 16000000 in
set_option maxRecDepth 100000 in
theorem rcopy5_c (b : BN) (L : List RX) (A : Option Addr) (c : Nat) (W : World) (hA : RsIn W A L) (h50 : L.length ≤ 1000) (hh : ∀ x ∈ L, x.1.heads.length ≤ 1000) :
    Calls Tryd.prog 8 #[.agg (bnC b (.slice A L.length c))] W (CopiedB W b L) := by
  obtain ⟨base, span, prod, epoch, seq⟩ := b
  obtain ⟨W3, hW3⟩ : ∃ w, ((W.alloc (.cells #[.int .i64 base, .int .i64 span, .int .i64 prod, .int .i64 epoch, .int .i64 seq, .slice A L.length c] 29)).alloc (.cells #[.int .i64 0, .int .i64 0, .int .i64 0, .int .i64 0, .int .i64 0, .slice none 0 0] 29)).alloc (.cells #[.int .i64 base, .int .i64 span, .int .i64 prod, .int .i64 epoch, .int .i64 seq, .slice A L.length c] 29) = w := ⟨_, rfl⟩
  have hb3 : Below W.heap.size W W3 := by
    rw [← hW3]
    exact (((Below.refl _ W).alloc (Nat.le_refl _) _).alloc (by simp) _).alloc (by simp; omega) _
  have hx1 : Box W3 (W.heap.size + 1) 29 #[.int .i64 0, .int .i64 0, .int .i64 0, .int .i64 0, .int .i64 0, .slice none 0 0] := by
    rw [← hW3]
    have := Box.new (W.alloc (.cells #[.int .i64 base, .int .i64 span, .int .i64 prod, .int .i64 epoch, .int .i64 seq, .slice A L.length c] 29)) 29 #[.int .i64 0, .int .i64 0, .int .i64 0, .int .i64 0, .int .i64 0, .slice none 0 0]
    rw [World.size_alloc] at this
    exact this.alloc _
  have hx2 : Box W3 (W.heap.size + 1 + 1) 29 #[.int .i64 base, .int .i64 span, .int .i64 prod, .int .i64 epoch, .int .i64 seq, .slice A L.length c] := by
    rw [← hW3]
    have := Box.new ((W.alloc (.cells #[.int .i64 base, .int .i64 span, .int .i64 prod, .int .i64 epoch, .int .i64 seq, .slice A L.length c] 29)).alloc (.cells #[.int .i64 0, .int .i64 0, .int .i64 0, .int .i64 0, .int .i64 0, .slice none 0 0] 29)) 29 #[.int .i64 base, .int .i64 span, .int .i64 prod, .int .i64 epoch, .int .i64 seq, .slice A L.length c]
    rw [World.size_alloc, World.size_alloc] at this
    exact this
  have hx0 : W3.cell? ⟨W.heap.size, 5, none⟩ = some (.slice A L.length c) := by
    have hq : Box W3 W.heap.size 29 #[.int .i64 base, .int .i64 span, .int .i64 prod, .int .i64 epoch, .int .i64 seq, .slice A L.length c] := by
      rw [← hW3]
      exact ((Box.new W _ _).alloc _).alloc _
    exact (hq.cell 5).trans rfl
  have cc := rcopyAll_c L A c W3 (hA.below hb3) h50 hh
  have H3 := Lib.hid (And.intro hb3 (And.intro hx1 hx2))
  clear hb3 hx1 hx2 hA hh
  unfold bnC
  simp only
  go_enter Tryd.func8, Tryd.ntmps8
  go_wp2_with fail
  (with_reducible refine cc.mono ?_)
  rintro en w1 ⟨M, B, d, hM, rfl, hrow, hb1⟩
  have HM := Lib.hid hM
  have hs3 := H3.out.1.size
  have HV := Lib.hid (And.intro (H3.out.1.trans (hb1.mono hs3)) (And.intro (H3.out.2.1.later hb1) (And.intro (H3.out.2.2.later hb1) (hrow.base hs3))))
  have hfr := HV.out.2.2.1.frozen 5
  have hq5 := (HV.out.2.2.1.cell 5).trans (show _ = some (Value.slice A L.length c) from rfl)
  have hx2s : Box (w1.setCell ⟨W.heap.size + 1 + 1, 5, none⟩ (.slice B M.length d)) (W.heap.size + 1 + 1) 29 #[.int .i64 base, .int .i64 span, .int .i64 prod, .int .i64 epoch, .int .i64 seq, .slice B M.length d] := HV.out.2.2.1.set 5 _
  have hx1s := HV.out.2.1.far (p := ⟨W.heap.size + 1 + 1, 5, none⟩) (by show W.heap.size + 1 ≠ W.heap.size + 1 + 1; omega) (.slice B M.length d)
  have hrs := HV.out.2.2.2.set HV.out.2.2.1 (by decide) (by decide) 5 (.slice B M.length d)
  have hbs := HV.out.1.setCell (p := ⟨W.heap.size + 1 + 1, 5, none⟩) (by show W.heap.size ≤ W.heap.size + 1 + 1; omega) (.slice B M.length d)
  obtain ⟨y0, y1, y2, y3, y4, y5, _, _, _, _, _, _⟩ := box_six hx2s
  obtain ⟨z0, z1, z2, z3, z4, z5, f0, f1, f2, f3, f4, f5⟩ := box_six hx1s
  have HS := Lib.hid (And.intro hx1s (And.intro hrs hbs))
  clear hx1s hx2s hrs hbs hrow hb1 hM cc
  clear hW3
  go_wp2_with fail
  refine bodyPost_ret (v := .agg #[.int .i64 base, .int .i64 span, .int .i64 prod, .int .i64 epoch, .int .i64 seq, .slice B M.length d]) ?_ rfl ?_
  · exact cpb_result (W.heap.size + 1) (bset_box HS.out.1 _ _ _ _ _ _) _ rfl
  · exact ⟨M, B, d, HM.out, rfl, HS.out.2.1.bset HS.out.1 (by decide) (by decide) _ _ _ _ _ _, below_off HS.out.2.2 (bset_off _ _ _ _ _ _ _ _) (by omega)⟩
theorem head_same (x y : ByteArray) (w : World) : (binOp .neq 62 (.agg #[.string x, .string y]) (.agg #[.string x, .string y])).run Tryd.prog w = .ok (.bool false) w := by
  simp [go_sem]
structure SameAt (W : World) (ca cb : Array Value) (w : World) : Prop where
  one : Box w W.heap.size 39 ca
  two : Box w (W.heap.size + 1) 39 cb
  bel : Below W.heap.size W w
theorem SameAt.start (W : World) (ca cb : Array Value) : SameAt W ca cb ((W.alloc (.cells ca 39)).alloc (.cells cb 39)) :=
  ⟨(Box.new _ _ _).alloc _, by have h := Box.new (W.alloc (.cells ca 39)) 39 cb; simpa using h, ((Below.refl _ _).alloc (Nat.le_refl _) _).alloc (by simp) _⟩
theorem SameAt.drewN {W w : World} {ca cb : Array Value} (h : SameAt W ca cb w) (n : Nat) : SameAt W ca cb (w.drewN n) := ⟨h.one.drewN n, h.two.drewN n, h.bel.trans ⟨rfl, rfl, rfl, Nat.le_refl _, fun _ _ => rfl⟩⟩
set_option maxHeartbeats 2000000 in
set_option maxRecDepth 100000 in
theorem rsame_c (r : Rec) (A B : Option Addr) (c d : Nat) (W : World) (hl : r.heads.length ≤ 1000) (hA : HIn W A r.heads) (hB : HIn W B r.heads) :
    Calls Tryd.prog 47 #[recV r A c, recV r B d] W (Good W (.bool true)) := by
  obtain ⟨place, time, bare, key, gone, value, heads⟩ := r
  have HA := Lib.hid hA
  have HB := Lib.hid hB
  simp only at HA HB
  clear hA hB
  unfold recV recC
  simp only at *
  have hs := fun x y w => head_same x y w
  go_enter Tryd.func47, Tryd.ntmps47
  go_wp2
  have HST : Hid (SameAt W #[.int .i64 place, .int .i64 time, .bool bare, .string key, .bool gone, .string value, .slice A heads.length c] #[.int .i64 place, .int .i64 time, .bool bare, .string key, .bool gone, .string value, .slice B heads.length d] ((W.alloc (.cells #[.int .i64 place, .int .i64 time, .bool bare, .string key, .bool gone, .string value, .slice A heads.length c] 39)).alloc (.cells #[.int .i64 place, .int .i64 time, .bool bare, .string key, .bool gone, .string value, .slice B heads.length d] 39))) := Lib.hid (SameAt.start W _ _)
  go_loopw [5] (fun i wr => ∃ k : Nat, i = .int .i64 k ∧ k ≤ heads.length ∧ SameAt W #[.int .i64 place, .int .i64 time, .bool bare, .string key, .bool gone, .string value, .slice A heads.length c] #[.int .i64 place, .int .i64 time, .bool bare, .string key, .bool gone, .string value, .slice B heads.length d] wr) (fun i _ => heads.length - (intOf i).toNat)
  case atStart => exact ⟨0, rfl, Nat.zero_le _, HST.out⟩
  case round =>
    obtain ⟨k, rfl, hkl, hS⟩ := hrel
    clear HST
    have x6 := (hS.one.cell 6).trans (show _ = some (Value.slice A heads.length c) from rfl)
    have y6 := (hS.two.cell 6).trans (show _ = some (Value.slice B heads.length d) from rfl)
    by_cases hk : k < heads.length
    · obtain ⟨b, off, rfl, hbl, q1, q2⟩ := (HA.out.below hS.bel).at_ hk
      obtain ⟨b', off', rfl, hbl', q1', q2'⟩ := (HB.out.below hS.bel).at_ hk
      have HS := Lib.hid hS
      clear hS
      have hki : (k : Int) < (heads.length : Int) := by omega
      have hk0 : (0 : Int) ≤ (k : Int) := by omega
      generalize heads[k].1 = z1 at *
      generalize heads[k].2 = z2 at *
      go_wp2
      go_quiet (fail)
      go_wp2
      go_roundw
      case rel => exact ⟨k + 1, by go_num, hk, HS.out.drewN _⟩
      case measure => simp [intOf]; omega
    · have hb := hS.bel
      clear hS
      go_wp2
      go_ret
      exact ⟨rfl, hb⟩
/-- The facts that a round of SameAll reads. -/
def SmS (W : World) (b o b' o' : Nat) (r : Rec) (A B : Option Addr) (c d : Nat) (w : World) : Prop :=
  RxAt w b o (r, A, c) ∧ RxAt w b' o' (r, B, d) ∧ b < w.heap.size ∧ b' < w.heap.size ∧ HIn w A r.heads ∧ HIn w B r.heads ∧ Below W.heap.size W w
theorem SmS.later {W w w' : World} {b o b' o' : Nat} {r : Rec} {A B : Option Addr} {c d : Nat} (h : SmS W b o b' o' r A B c d w) (hb : Below w.heap.size w w') : SmS W b o b' o' r A B c d w' := by
  obtain ⟨h1, h2, h3, h4, h5, h6, h7⟩ := h
  exact ⟨h1.below h3 hb, h2.below h4 hb, Nat.lt_of_lt_of_le h3 hb.size, Nat.lt_of_lt_of_le h4 hb.size, h5.below hb, h6.below hb, h7.trans (hb.mono h7.size)⟩
theorem SmS.out (W : World) (b o b' o' : Nat) (place time : Int) (bare gone : Bool) (key value : ByteArray) (heads : List Hd) (A B : Option Addr) (c d : Nat) (w : World) : SmS W b o b' o' ⟨place, time, bare, key, gone, value, heads⟩ A B c d w ↔
    (w.cell? ⟨b, o, none⟩ = some (.int .i64 place) ∧ w.cell? ⟨b, o + 1, none⟩ = some (.int .i64 time) ∧ w.cell? ⟨b, o + 2, none⟩ = some (.bool bare) ∧ w.cell? ⟨b, o + 3, none⟩ = some (.string key) ∧ w.cell? ⟨b, o + 4, none⟩ = some (.bool gone) ∧ w.cell? ⟨b, o + 5, none⟩ = some (.string value) ∧ w.cell? ⟨b, o + 6, none⟩ = some (.slice A heads.length c) ∧
     w.cell? ⟨b', o', none⟩ = some (.int .i64 place) ∧ w.cell? ⟨b', o' + 1, none⟩ = some (.int .i64 time) ∧ w.cell? ⟨b', o' + 2, none⟩ = some (.bool bare) ∧ w.cell? ⟨b', o' + 3, none⟩ = some (.string key) ∧ w.cell? ⟨b', o' + 4, none⟩ = some (.bool gone) ∧ w.cell? ⟨b', o' + 5, none⟩ = some (.string value) ∧ w.cell? ⟨b', o' + 6, none⟩ = some (.slice B heads.length d) ∧
     b < w.heap.size ∧ b' < w.heap.size ∧ HIn w A heads ∧ HIn w B heads ∧ Below W.heap.size W w) := by
  unfold SmS RxAt
  simp only [and_assoc]
set_option maxHeartbeats 8000000 in
set_option maxRecDepth 100000 in
theorem rsameAll_c (L M : List RX) (A B : Option Addr) (c d : Nat) (W : World) (hA : RsIn W A L) (hB : RsIn W B M) (he : L.map (·.1) = M.map (·.1)) (h50 : L.length ≤ 1000) (hh : ∀ x ∈ L, x.1.heads.length ≤ 1000) :
    Calls Tryd.prog 34 #[.slice A L.length c, .slice B M.length d] W (Good W (.bool true)) := by
  have hlen : M.length = L.length := by have := congrArg List.length he; simpa using this.symm
  rw [hlen]
  have HAB := Lib.hid (And.intro hA hB)
  have HE := Lib.hid (And.intro he hlen)
  clear hA hB he hlen
  go_enter Tryd.func34, Tryd.ntmps34
  go_wp2
  go_loopw [5] (fun i wr => ∃ k : Nat, i = .int .i64 k ∧ k ≤ L.length ∧ Below W.heap.size W wr) (fun i _ => L.length - (intOf i).toNat)
  case atStart => exact ⟨0, rfl, Nat.zero_le _, Below.refl _ _⟩
  case round =>
    obtain ⟨k, rfl, hkl, hS⟩ := hrel
    by_cases hk : k < L.length
    · obtain ⟨x, hx⟩ : ∃ x, L[k]? = some x := ⟨_, List.getElem?_eq_getElem hk⟩
      obtain ⟨y, hy⟩ : ∃ y, M[k]? = some y := ⟨_, List.getElem?_eq_getElem (by have := HE.out.2; omega)⟩
      have hxy : x.1 = y.1 := by
        have := congrArg (fun l => l[k]?) HE.out.1
        simpa [List.getElem?_map, hx, hy] using this
      obtain ⟨b, off, rfl, hbl, hca⟩ := (HAB.out.1.below hS) (by omega)
      obtain ⟨b', off', rfl, hbl', hcb⟩ := (HAB.out.2.below hS) (by have := HE.out.2; omega)
      obtain ⟨qa, ra⟩ := hca k x hx
      obtain ⟨qb, rb⟩ := hcb k y hy
      have hxl := hh x (List.mem_of_getElem? hx)
      obtain ⟨r, A1, c1⟩ := x
      obtain ⟨r', B1, d1⟩ := y
      obtain rfl : r = r' := hxy
      have hs : SmS W b (off + k * 7) b' (off' + k * 7) r A1 B1 c1 d1 wr := ⟨qa, qb, hbl, hbl', ra.heads, rb.heads, hS⟩
      have cs := fun w (h1 : HIn w A1 r.heads) (h2 : HIn w B1 r.heads) => rsame_c r A1 B1 c1 d1 w hxl h1 h2
      have hstep := fun w w' (h : SmS W b (off + k * 7) b' (off' + k * 7) r A1 B1 c1 d1 w) hb => SmS.later (w' := w') h hb
      obtain ⟨place, time, bare, key, gone, value, heads⟩ := r
      unfold recV recC at cs
      simp only at cs
      simp only [SmS.out] at hs hstep
      have HK := Lib.hid hk
      have hki : (k : Int) < (L.length : Int) := by omega
      have hk0 : (0 : Int) ≤ (k : Int) := by omega
      clear hca hcb qa qb ra rb hx hy hxl hh hbl hbl' hS
      obtain ⟨x0, x1, x2, x3, x4, x5, x6, y0, y1, y2, y3, y4, y5, y6, hs5⟩ := id hs
      go_wp2_with fail
      go_region_held3 (fun w => w.cell? ⟨b, off + k * 7, none⟩ = some (.int .i64 place) ∧ w.cell? ⟨b, off + k * 7 + 1, none⟩ = some (.int .i64 time) ∧ w.cell? ⟨b, off + k * 7 + 2, none⟩ = some (.bool bare) ∧ w.cell? ⟨b, off + k * 7 + 3, none⟩ = some (.string key) ∧ w.cell? ⟨b, off + k * 7 + 4, none⟩ = some (.bool gone) ∧ w.cell? ⟨b, off + k * 7 + 5, none⟩ = some (.string value) ∧ w.cell? ⟨b, off + k * 7 + 6, none⟩ = some (.slice A1 heads.length c1) ∧
     w.cell? ⟨b', off' + k * 7, none⟩ = some (.int .i64 place) ∧ w.cell? ⟨b', off' + k * 7 + 1, none⟩ = some (.int .i64 time) ∧ w.cell? ⟨b', off' + k * 7 + 2, none⟩ = some (.bool bare) ∧ w.cell? ⟨b', off' + k * 7 + 3, none⟩ = some (.string key) ∧ w.cell? ⟨b', off' + k * 7 + 4, none⟩ = some (.bool gone) ∧ w.cell? ⟨b', off' + k * 7 + 5, none⟩ = some (.string value) ∧ w.cell? ⟨b', off' + k * 7 + 6, none⟩ = some (.slice B1 heads.length d1) ∧
     b < w.heap.size ∧ b' < w.heap.size ∧ HIn w A1 heads ∧ HIn w B1 heads ∧ Below W.heap.size W w)
        (first | exact hstep _ _ hs ((Below.refl _ _).drew) | exact hstep _ _ (by assumption) (by assumption))
        (first | ((with_reducible refine (cs _ (by first | assumption | exact hs5.2.2.1.below ((Below.refl _ _).drew)) (by first | assumption | exact hs5.2.2.2.1.below ((Below.refl _ _).drew))).mono ?_); rintro e w2 ⟨rfl, hb2⟩))
      all_goals go_wp2_with fail
      all_goals go_roundw
      case rel => exact ⟨k + 1, by go_num, HK.out, hs5.2.2.2.2.trans ((((Below.refl _ _).drew).trans hb2).mono (by have := hs5.2.2.2.2.size; simpa using this))⟩
      case measure => simp [intOf]; omega
    · go_wp2
      go_ret
      exact ⟨rfl, hS⟩
set_option maxHeartbeats 8000000 in
set_option maxRecDepth 100000 in
theorem rsame5_c (b : BN) (L M : List RX) (A B : Option Addr) (c d : Nat) (W : World) (hA : RsIn W A L) (hB : RsIn W B M) (he : L.map (·.1) = M.map (·.1)) (h50 : L.length ≤ 1000) (hh : ∀ x ∈ L, x.1.heads.length ≤ 1000) :
    Calls Tryd.prog 24 #[.agg (bnC b (.slice A L.length c)), .agg (bnC b (.slice B M.length d))] W (Good W (.bool true)) := by
  obtain ⟨base, span, prod, epoch, seq⟩ := b
  unfold bnC
  simp only
  obtain ⟨W2, hW2⟩ : ∃ w, (W.alloc (.cells #[.int .i64 base, .int .i64 span, .int .i64 prod, .int .i64 epoch, .int .i64 seq, .slice A L.length c] 29)).alloc (.cells #[.int .i64 base, .int .i64 span, .int .i64 prod, .int .i64 epoch, .int .i64 seq, .slice B M.length d] 29) = w := ⟨_, rfl⟩
  have hb : Below W.heap.size W W2 := by
    rw [← hW2]
    exact ((Below.refl _ W).alloc (Nat.le_refl _) _).alloc (by simp) _
  have hx : Box W2 W.heap.size 29 #[.int .i64 base, .int .i64 span, .int .i64 prod, .int .i64 epoch, .int .i64 seq, .slice A L.length c] := by
    rw [← hW2]
    exact (Box.new W _ _).alloc _
  have hy : Box W2 (W.heap.size + 1) 29 #[.int .i64 base, .int .i64 span, .int .i64 prod, .int .i64 epoch, .int .i64 seq, .slice B M.length d] := by
    rw [← hW2]
    have := Box.new (W.alloc (.cells #[.int .i64 base, .int .i64 span, .int .i64 prod, .int .i64 epoch, .int .i64 seq, .slice A L.length c] 29)) 29 #[.int .i64 base, .int .i64 span, .int .i64 prod, .int .i64 epoch, .int .i64 seq, .slice B M.length d]
    rw [World.size_alloc] at this
    exact this
  have cs := rsameAll_c L M A B c d W2 (hA.below hb) (hB.below hb) he h50 hh
  obtain ⟨y0, y1, y2, y3, y4, y5, _, _, _, _, _, _⟩ := box_six hx
  obtain ⟨z0, z1, z2, z3, z4, z5, _, _, _, _, _, _⟩ := box_six hy
  have HB := Lib.hid hb
  clear hb hx hy hA hB he hh
  go_enter Tryd.func24, Tryd.ntmps24
  go_wp2_with fail
  (with_reducible refine cs.mono ?_)
  rintro en w2 ⟨rfl, hb2⟩
  have H2 := Lib.hid (HB.out.trans (hb2.mono HB.out.size))
  clear hb2 cs
  go_wp2
  go_ret
  exact ⟨rfl, H2.out⟩
def Sm5 (W : World) (b o b' o' : Nat) (n : BN) (X Y : List RX) (A B : Option Addr) (c d : Nat) (w : World) : Prop :=
  BxAt w b o (n, X, A, c) ∧ BxAt w b' o' (n, Y, B, d) ∧ b < w.heap.size ∧ b' < w.heap.size ∧ RsIn w A X ∧ RsIn w B Y ∧ Below W.heap.size W w
theorem Sm5.later {W w w' : World} {b o b' o' : Nat} {n : BN} {X Y : List RX} {A B : Option Addr} {c d : Nat} (h : Sm5 W b o b' o' n X Y A B c d w) (hb : Below w.heap.size w w') : Sm5 W b o b' o' n X Y A B c d w' := by
  obtain ⟨h1, h2, h3, h4, h5, h6, h7⟩ := h
  exact ⟨h1.below h3 hb, h2.below h4 hb, Nat.lt_of_lt_of_le h3 hb.size, Nat.lt_of_lt_of_le h4 hb.size, h5.below hb, h6.below hb, h7.trans (hb.mono h7.size)⟩
theorem Sm5.out (W : World) (b o b' o' : Nat) (base span prod epoch seq : Int) (X Y : List RX) (A1 B1 : Option Addr) (c1 d1 : Nat) (w : World) : Sm5 W b o b' o' ⟨base, span, prod, epoch, seq⟩ X Y A1 B1 c1 d1 w ↔
    (w.cell? ⟨b, o, none⟩ = some (.int .i64 base) ∧ w.cell? ⟨b, o + 1, none⟩ = some (.int .i64 span) ∧ w.cell? ⟨b, o + 2, none⟩ = some (.int .i64 prod) ∧ w.cell? ⟨b, o + 3, none⟩ = some (.int .i64 epoch) ∧ w.cell? ⟨b, o + 4, none⟩ = some (.int .i64 seq) ∧ w.cell? ⟨b, o + 5, none⟩ = some (.slice A1 X.length c1) ∧ w.cell? ⟨b', o', none⟩ = some (.int .i64 base) ∧ w.cell? ⟨b', o' + 1, none⟩ = some (.int .i64 span) ∧ w.cell? ⟨b', o' + 2, none⟩ = some (.int .i64 prod) ∧ w.cell? ⟨b', o' + 3, none⟩ = some (.int .i64 epoch) ∧ w.cell? ⟨b', o' + 4, none⟩ = some (.int .i64 seq) ∧ w.cell? ⟨b', o' + 5, none⟩ = some (.slice B1 Y.length d1) ∧ b < w.heap.size ∧ b' < w.heap.size ∧ RsIn w A1 X ∧ RsIn w B1 Y ∧ Below W.heap.size W w) := by
  unfold Sm5 BxAt
  simp only [and_assoc]
set_option maxHeartbeats 8000000 in
set_option maxRecDepth 100000 in
theorem rsameAll5_c (L M : List BX) (A B : Option Addr) (c d : Nat) (W : World) (hA : BsIn W A L) (hB : BsIn W B M) (he : L.map BX.told = M.map BX.told) (h50 : L.length ≤ 140737488351232) (hh : ∀ x ∈ L, x.2.1.length ≤ 1000 ∧ ∀ y ∈ x.2.1, y.1.heads.length ≤ 1000) :
    Calls Tryd.prog 12 #[.slice A L.length c, .slice B M.length d] W (Good W (.bool true)) := by
  have hlen : M.length = L.length := by have := congrArg List.length he; simpa using this.symm
  rw [hlen]
  have HAB := Lib.hid (And.intro hA hB)
  have HE := Lib.hid (And.intro he hlen)
  clear hA hB he hlen
  go_enter Tryd.func12, Tryd.ntmps12
  go_wp2
  go_loopw [5] (fun i wr => ∃ k : Nat, i = .int .i64 k ∧ k ≤ L.length ∧ Below W.heap.size W wr) (fun i _ => L.length - (intOf i).toNat)
  case atStart => exact ⟨0, rfl, Nat.zero_le _, Below.refl _ _⟩
  case round =>
    obtain ⟨k, rfl, hkl, hS⟩ := hrel
    by_cases hk : k < L.length
    · obtain ⟨x, hx⟩ : ∃ x, L[k]? = some x := ⟨_, List.getElem?_eq_getElem hk⟩
      obtain ⟨y, hy⟩ : ∃ y, M[k]? = some y := ⟨_, List.getElem?_eq_getElem (by have := HE.out.2; omega)⟩
      have hxy : x.told = y.told := by
        have := congrArg (fun l => l[k]?) HE.out.1
        simpa [List.getElem?_map, hx, hy] using this
      obtain ⟨b, off, rfl, hbl, hca⟩ := (HAB.out.1.below hS) (by omega)
      obtain ⟨b', off', rfl, hbl', hcb⟩ := (HAB.out.2.below hS) (by have := HE.out.2; omega)
      obtain ⟨qa, ra⟩ := hca k x hx
      obtain ⟨qb, rb⟩ := hcb k y hy
      obtain ⟨hxl, hxh⟩ := hh x (List.mem_of_getElem? hx)
      obtain ⟨n, X, A1, c1⟩ := x
      obtain ⟨n', Y, B1, d1⟩ := y
      unfold BX.told at hxy
      simp only [Prod.mk.injEq] at hxy
      obtain ⟨rfl, hXY⟩ := hxy
      have hs : Sm5 W b (off + k * 6) b' (off' + k * 6) n X Y A1 B1 c1 d1 wr := ⟨qa, qb, hbl, hbl', ra, rb, hS⟩
      have cs := fun w (h1 : RsIn w A1 X) (h2 : RsIn w B1 Y) => rsame5_c n X Y A1 B1 c1 d1 w h1 h2 hXY hxl hxh
      have hstep := fun w w' (h : Sm5 W b (off + k * 6) b' (off' + k * 6) n X Y A1 B1 c1 d1 w) hb => Sm5.later (w' := w') h hb
      obtain ⟨base, span, prod, epoch, seq⟩ := n
      unfold bnC at cs
      simp only at cs
      simp only [Sm5.out] at hs hstep
      have HK := Lib.hid hk
      have hki : (k : Int) < (L.length : Int) := by omega
      have hk0 : (0 : Int) ≤ (k : Int) := by omega
      clear hca hcb qa qb ra rb hx hy hxl hxh hXY hh hbl hbl' hS
      obtain ⟨x0, x1, x2, x3, x4, x5, y0, y1, y2, y3, y4, y5, hs5⟩ := id hs
      go_wp2_with fail
      go_region_held3 (fun w => w.cell? ⟨b, off + k * 6, none⟩ = some (.int .i64 base) ∧ w.cell? ⟨b, off + k * 6 + 1, none⟩ = some (.int .i64 span) ∧ w.cell? ⟨b, off + k * 6 + 2, none⟩ = some (.int .i64 prod) ∧ w.cell? ⟨b, off + k * 6 + 3, none⟩ = some (.int .i64 epoch) ∧ w.cell? ⟨b, off + k * 6 + 4, none⟩ = some (.int .i64 seq) ∧ w.cell? ⟨b, off + k * 6 + 5, none⟩ = some (.slice A1 X.length c1) ∧ w.cell? ⟨b', off' + k * 6, none⟩ = some (.int .i64 base) ∧ w.cell? ⟨b', off' + k * 6 + 1, none⟩ = some (.int .i64 span) ∧ w.cell? ⟨b', off' + k * 6 + 2, none⟩ = some (.int .i64 prod) ∧ w.cell? ⟨b', off' + k * 6 + 3, none⟩ = some (.int .i64 epoch) ∧ w.cell? ⟨b', off' + k * 6 + 4, none⟩ = some (.int .i64 seq) ∧ w.cell? ⟨b', off' + k * 6 + 5, none⟩ = some (.slice B1 Y.length d1) ∧ b < w.heap.size ∧ b' < w.heap.size ∧ RsIn w A1 X ∧ RsIn w B1 Y ∧ Below W.heap.size W w)
        (first | exact hstep _ _ hs ((Below.refl _ _).drew) | exact hstep _ _ (by assumption) (by assumption))
        (first | ((with_reducible refine (cs _ (by first | assumption | exact hs5.2.2.1.below ((Below.refl _ _).drew)) (by first | assumption | exact hs5.2.2.2.1.below ((Below.refl _ _).drew))).mono ?_); rintro e w2 ⟨rfl, hb2⟩))
      all_goals go_wp2_with fail
      all_goals go_roundw
      case rel => exact ⟨k + 1, by go_num, HK.out, hs5.2.2.2.2.trans ((((Below.refl _ _).drew).trans hb2).mono (by have := hs5.2.2.2.2.size; simpa using this))⟩
      case measure => simp [intOf]; omega
    · go_wp2
      go_ret
      exact ⟨rfl, hS⟩
end Go.Proofs.YtdclkhbolmbnmaaDoor
