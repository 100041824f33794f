/- Merged texts. What each proves is told at its head. -/
import Derived.Test.YtjnphajkoopkgaaGreatDoorUQ
import Derived.Test.YtjnphajkoopkgaaGreatDoorPTake
import Derived.RegionTactic
import Derived.BigQuiet
import Derived.Deep.QuietTactic
import Derived.Deep.DeepCutAuto
import Derived.Deep.RegionHeld3
import Derived.Laws.StructEq
import Derived.Test.YtjnphajkoopkgaaGreatDoorUBa
import Derived.Test.YtjnphajkoopkgaaGreatDoorUR
import Derived.Maps.AppendAt
import Derived.Test.YtjnphajkoopkgaaGreatDoorUP
/- The document's copy of a record, by a contract (from the record layer's text). -/
namespace Go.Proofs.YtjnphajkoopkgaaGreatDoor
open Go.RowKit
set_option linter.unusedVariables false
theorem hin_cells {w : World} {b off : Nat} {hs : List Hd} (h : HIn w (some ⟨b, off, none⟩) hs) : ∀ j u, (headCells hs)[j]? = some u → w.cell? ((⟨b, off, none⟩ : Addr).add j) = some u := by
  intro j u hj
  have hl : j < (headCells hs).length := (List.getElem?_eq_some_iff.1 hj).1
  rw [headCells_len] at hl
  obtain ⟨b', off', e, _, hc⟩ := h (by omega)
  injection e with e
  injection e with e1 e2 _
  subst e1
  subst e2
  have hi : j / 2 < hs.length := by omega
  obtain ⟨q1, q2⟩ := hc (j / 2) _ (List.getElem?_eq_getElem hi)
  obtain ⟨p1, p2⟩ := headCells_at (List.getElem?_eq_getElem hi)
  have ea : (⟨b, off, none⟩ : Addr).add j = ⟨b, off + j, none⟩ := by unfold Addr.add; split <;> simp_all
  rw [ea]
  rcases (by omega : j = j / 2 * 2 ∨ j = j / 2 * 2 + 1) with e | e
  · rw [e] at hj
    rw [p1] at hj
    rw [e, q1]
    exact hj
  · rw [e] at hj
    rw [p2] at hj
    rw [e, show off + (j / 2 * 2 + 1) = off + j / 2 * 2 + 1 by omega, q2]
    exact hj
theorem headCells_one (hs : List Hd) : ∀ u ∈ headCells hs, u.oneCell' = true := by
  intro u hu
  simp only [headCells, List.mem_flatMap] at hu
  obtain ⟨h, _, hm⟩ := hu
  simp at hm
  rcases hm with rfl | rfl <;> rfl
/-- A copy of a record: the same fields, its headers in new memory. -/
def Copied (W : World) (r : Rec) (e : Ending) (w' : World) : Prop := ∃ A c, e = .returned (recV r A c) ∧ w'.ownsRow W.heap.size 87 2 (.slice A r.heads.length c) r.heads.length (headCells r.heads) ∧ Below W.heap.size W w'
theorem copy_result {w : World} (g : Nat) {v0 v1 v2 v3 v4 v5 v6 : Value} (h : Box w g 85 #[v0, v1, v2, v3, v4, v5, v6]) (tmps : Array Value) (ht : (tmps[2]?).getD undef = .pointer (some ⟨g, 0, none⟩)) :
    (results Tryz.f90 tmps).run Tryz.prog w = .ok (.agg #[v0, v1, v2, v3, v4, v5, v6]) w := by
  have c0 := (h.cell 0).trans (show _ = some v0 from rfl)
  have c1 := (h.cell 1).trans (show _ = some v1 from rfl)
  have c2 := (h.cell 2).trans (show _ = some v2 from rfl)
  have c3 := (h.cell 3).trans (show _ = some v3 from rfl)
  have c4 := (h.cell 4).trans (show _ = some v4 from rfl)
  have c5 := (h.cell 5).trans (show _ = some v5 from rfl)
  have c6 := (h.cell 6).trans (show _ = some v6 from rfl)
  simp [results, Tryz.results90, go_sem, ht, c0, c1, c2, c3, c4, c5, c6]
set_option maxHeartbeats 2000000 in
set_option maxRecDepth 100000 in
theorem rcopy_c (r : Rec) (A : Option Addr) (c : Nat) (W : World) (hR : RIn W r A c) (hc : r.heads.length ≤ 1000) :
    Calls Tryz.prog 90 #[recV r A c] W (Copied W r) := by
  obtain ⟨place, time, bare, key, gone, value, heads⟩ := r
  have HH := Lib.hid hR.heads
  simp only at HH
  clear hR
  unfold recV recC
  simp only at *
  have HB2 := Lib.hid ((Box.new ((W.alloc (.cells #[.int .i64 place, .int .i64 time, .bool bare, .string key, .bool gone, .string value, .slice A heads.length c] 85)).alloc (.cells #[.int .i64 0, .int .i64 0, .bool false, .string ⟨#[]⟩, .bool false, .string ⟨#[]⟩, .slice none 0 0] 85)) 85 #[.int .i64 place, .int .i64 time, .bool bare, .string key, .bool gone, .string value, .slice none 0 0]))
  have HB1 := Lib.hid ((Box.new (W.alloc (.cells #[.int .i64 place, .int .i64 time, .bool bare, .string key, .bool gone, .string value, .slice A heads.length c] 85)) 85 #[.int .i64 0, .int .i64 0, .bool false, .string ⟨#[]⟩, .bool false, .string ⟨#[]⟩, .slice none 0 0]).alloc (.cells #[.int .i64 place, .int .i64 time, .bool bare, .string key, .bool gone, .string value, .slice none 0 0] 85))
  have hbel := Lib.hid ((((Below.refl W.heap.size W).alloc (Nat.le_refl _) (.cells #[.int .i64 place, .int .i64 time, .bool bare, .string key, .bool gone, .string value, .slice A heads.length c] 85)).alloc (by simp) (.cells #[.int .i64 0, .int .i64 0, .bool false, .string ⟨#[]⟩, .bool false, .string ⟨#[]⟩, .slice none 0 0] 85)).alloc (by simp; omega) (.cells #[.int .i64 place, .int .i64 time, .bool bare, .string key, .bool gone, .string value, .slice none 0 0] 85))
  simp only [World.size_alloc] at HB1 HB2
  obtain ⟨i0, hi, hz0, hz1, hz2⟩ := info_parts infoHeader
  cases A with
  | none =>
    have hnil : heads = [] := by
      cases heads with
      | nil => rfl
      | cons x l =>
        obtain ⟨b, off, e, _⟩ := HH.out (by simp)
        cases e
    subst hnil
    go_enter Tryz.func90, Tryz.ntmps90
    have happ : ∀ w : World, (Builtin.append_ #[83, 83] 83 #[.slice none 0 0, .slice none 0 c]).run Tryz.prog w = .ok (.slice none 0 0) w := fun w => by
      simp [Builtin.append_, run_underlying Tryz.underlying83, sizeOf, typeInfo, hi, Builtin.lenOf, Builtin.firstCells]
    go_wp2
    refine bodyPost_ret (v := .agg #[.int .i64 place, .int .i64 time, .bool bare, .string key, .bool gone, .string value, .slice none 0 0]) (by simp [results, Tryz.results90, go_sem]) rfl ⟨none, 0, rfl, World.ownsRow_nil _ _ _ _, ?_⟩
    exact (((Below.refl _ _).alloc (Nat.le_refl _) _).alloc (by simp) _).alloc (by simp; omega) _
  | some a =>
    have hnews : Hid (∀ j u, (headCells heads)[j]? = some u → ((((W.alloc (.cells #[.int .i64 place, .int .i64 time, .bool bare, .string key, .bool gone, .string value, .slice (some a) heads.length c] 85)).alloc (.cells #[.int .i64 0, .int .i64 0, .bool false, .string ⟨#[]⟩, .bool false, .string ⟨#[]⟩, .slice none 0 0] 85)).alloc (.cells #[.int .i64 place, .int .i64 time, .bool bare, .string key, .bool gone, .string value, .slice none 0 0] 85))).cell? (a.add j) = some u) := Lib.hid (by
      intro j u hj
      have hl : j < (headCells heads).length := (List.getElem?_eq_some_iff.1 hj).1
      rw [headCells_len] at hl
      obtain ⟨b, off, e, hb, _⟩ := HH.out (by omega)
      injection e with e
      subst e
      exact hin_cells (HH.out.below ((((Below.refl _ _).alloc (Nat.le_refl _) _).alloc (by simp) _).alloc (by simp; omega) _)) j u hj)
    have hlen := headCells_len heads
    have HLN := Lib.hid hlen
    clear hlen
    go_enter Tryz.func90, Tryz.ntmps90
    go_wp2_with (at_builtin; refine wpList_append_own _ rfl _ _ 83 rfl W.heap.size 87 i0 (.agg #[.string ⟨#[]⟩, .string ⟨#[]⟩]) 2 32 Tryz.underlying83 hi hz0 hz1 hz2 rfl (by decide) _ _ _ rfl (World.ownsRow_nil _ _ _ _) a heads.length c (headCells heads) rfl HLN.out hnews.out ?c2 ?c3 ?c4 ?c5 ?_)
    case c2 => exact headCells_one heads
    case c3 => unfold maxLen; omega
    case c4 => omega
    case c5 => simp; omega
    intro v' w1 hown hgrow _
    obtain ⟨A1, c1, hv⟩ := own_slice hown
    subst hv
    have B1 := Lib.hid (HB1.out.kept_by hgrow (.inl rfl))
    have B2 := Lib.hid (HB2.out.kept_by hgrow (.inl rfl))
    have hb1 := Lib.hid (hbel.out.grown hgrow (by simp; omega) (fun k hk => by cases hk))
    have HO := Lib.hid hown
    clear hown hgrow
    have y0 : w1.cell? ⟨W.heap.size + 1 + 1, 0, none⟩ = some (.int .i64 place) := (B2.out.cell 0).trans rfl
    have y1 : w1.cell? ⟨W.heap.size + 1 + 1, 1, none⟩ = some (.int .i64 time) := (B2.out.cell 1).trans rfl
    have y2 : w1.cell? ⟨W.heap.size + 1 + 1, 2, none⟩ = some (.bool bare) := (B2.out.cell 2).trans rfl
    have y3 : w1.cell? ⟨W.heap.size + 1 + 1, 3, none⟩ = some (.string key) := (B2.out.cell 3).trans rfl
    have y4 : w1.cell? ⟨W.heap.size + 1 + 1, 4, none⟩ = some (.bool gone) := (B2.out.cell 4).trans rfl
    have y5 : w1.cell? ⟨W.heap.size + 1 + 1, 5, none⟩ = some (.string value) := (B2.out.cell 5).trans rfl
    have y6 : w1.cell? ⟨W.heap.size + 1 + 1, 6, none⟩ = some (.slice none 0 0) := (B2.out.cell 6).trans rfl
    have r0 : w1.cell? ⟨W.heap.size + 1, 0, none⟩ = some (.int .i64 0) := (B1.out.cell 0).trans rfl
    have g0 := B1.out.frozen 0
    have r1 : w1.cell? ⟨W.heap.size + 1, 1, none⟩ = some (.int .i64 0) := (B1.out.cell 1).trans rfl
    have g1 := B1.out.frozen 1
    have r2 : w1.cell? ⟨W.heap.size + 1, 2, none⟩ = some (.bool false) := (B1.out.cell 2).trans rfl
    have g2 := B1.out.frozen 2
    have r3 : w1.cell? ⟨W.heap.size + 1, 3, none⟩ = some (.string ⟨#[]⟩) := (B1.out.cell 3).trans rfl
    have g3 := B1.out.frozen 3
    have r4 : w1.cell? ⟨W.heap.size + 1, 4, none⟩ = some (.bool false) := (B1.out.cell 4).trans rfl
    have g4 := B1.out.frozen 4
    have r5 : w1.cell? ⟨W.heap.size + 1, 5, none⟩ = some (.string ⟨#[]⟩) := (B1.out.cell 5).trans rfl
    have g5 := B1.out.frozen 5
    have r6 : w1.cell? ⟨W.heap.size + 1, 6, none⟩ = some (.slice none 0 0) := (B1.out.cell 6).trans rfl
    have g6 := B1.out.frozen 6
    have f6 := B2.out.frozen 6
    have y0b : (w1.setCell ⟨W.heap.size + 1 + 1, 6, none⟩ (.slice A1 heads.length c1)).cell? ⟨W.heap.size + 1 + 1, 0, none⟩ = some (.int .i64 place) := ((B2.out.set 6 (.slice A1 heads.length c1)).cell 0).trans rfl
    have y1b : (w1.setCell ⟨W.heap.size + 1 + 1, 6, none⟩ (.slice A1 heads.length c1)).cell? ⟨W.heap.size + 1 + 1, 1, none⟩ = some (.int .i64 time) := ((B2.out.set 6 (.slice A1 heads.length c1)).cell 1).trans rfl
    have y2b : (w1.setCell ⟨W.heap.size + 1 + 1, 6, none⟩ (.slice A1 heads.length c1)).cell? ⟨W.heap.size + 1 + 1, 2, none⟩ = some (.bool bare) := ((B2.out.set 6 (.slice A1 heads.length c1)).cell 2).trans rfl
    have y3b : (w1.setCell ⟨W.heap.size + 1 + 1, 6, none⟩ (.slice A1 heads.length c1)).cell? ⟨W.heap.size + 1 + 1, 3, none⟩ = some (.string key) := ((B2.out.set 6 (.slice A1 heads.length c1)).cell 3).trans rfl
    have y4b : (w1.setCell ⟨W.heap.size + 1 + 1, 6, none⟩ (.slice A1 heads.length c1)).cell? ⟨W.heap.size + 1 + 1, 4, none⟩ = some (.bool gone) := ((B2.out.set 6 (.slice A1 heads.length c1)).cell 4).trans rfl
    have y5b : (w1.setCell ⟨W.heap.size + 1 + 1, 6, none⟩ (.slice A1 heads.length c1)).cell? ⟨W.heap.size + 1 + 1, 5, none⟩ = some (.string value) := ((B2.out.set 6 (.slice A1 heads.length c1)).cell 5).trans rfl
    have y6b : (w1.setCell ⟨W.heap.size + 1 + 1, 6, none⟩ (.slice A1 heads.length c1)).cell? ⟨W.heap.size + 1 + 1, 6, none⟩ = some (.slice A1 heads.length c1) := ((B2.out.set 6 (.slice A1 heads.length c1)).cell 6).trans rfl
    have r0b : (w1.setCell ⟨W.heap.size + 1 + 1, 6, none⟩ (.slice A1 heads.length c1)).cell? ⟨W.heap.size + 1, 0, none⟩ = some (.int .i64 0) := ((B1.out.far (p := ⟨W.heap.size + 1 + 1, 6, none⟩) (Nat.ne_of_lt (Nat.lt_succ_self _)) (.slice A1 heads.length c1)).cell 0).trans rfl
    have g0b := (B1.out.far (p := ⟨W.heap.size + 1 + 1, 6, none⟩) (Nat.ne_of_lt (Nat.lt_succ_self _)) (.slice A1 heads.length c1)).frozen 0
    have r1b : (w1.setCell ⟨W.heap.size + 1 + 1, 6, none⟩ (.slice A1 heads.length c1)).cell? ⟨W.heap.size + 1, 1, none⟩ = some (.int .i64 0) := ((B1.out.far (p := ⟨W.heap.size + 1 + 1, 6, none⟩) (Nat.ne_of_lt (Nat.lt_succ_self _)) (.slice A1 heads.length c1)).cell 1).trans rfl
    have g1b := (B1.out.far (p := ⟨W.heap.size + 1 + 1, 6, none⟩) (Nat.ne_of_lt (Nat.lt_succ_self _)) (.slice A1 heads.length c1)).frozen 1
    have r2b : (w1.setCell ⟨W.heap.size + 1 + 1, 6, none⟩ (.slice A1 heads.length c1)).cell? ⟨W.heap.size + 1, 2, none⟩ = some (.bool false) := ((B1.out.far (p := ⟨W.heap.size + 1 + 1, 6, none⟩) (Nat.ne_of_lt (Nat.lt_succ_self _)) (.slice A1 heads.length c1)).cell 2).trans rfl
    have g2b := (B1.out.far (p := ⟨W.heap.size + 1 + 1, 6, none⟩) (Nat.ne_of_lt (Nat.lt_succ_self _)) (.slice A1 heads.length c1)).frozen 2
    have r3b : (w1.setCell ⟨W.heap.size + 1 + 1, 6, none⟩ (.slice A1 heads.length c1)).cell? ⟨W.heap.size + 1, 3, none⟩ = some (.string ⟨#[]⟩) := ((B1.out.far (p := ⟨W.heap.size + 1 + 1, 6, none⟩) (Nat.ne_of_lt (Nat.lt_succ_self _)) (.slice A1 heads.length c1)).cell 3).trans rfl
    have g3b := (B1.out.far (p := ⟨W.heap.size + 1 + 1, 6, none⟩) (Nat.ne_of_lt (Nat.lt_succ_self _)) (.slice A1 heads.length c1)).frozen 3
    have r4b : (w1.setCell ⟨W.heap.size + 1 + 1, 6, none⟩ (.slice A1 heads.length c1)).cell? ⟨W.heap.size + 1, 4, none⟩ = some (.bool false) := ((B1.out.far (p := ⟨W.heap.size + 1 + 1, 6, none⟩) (Nat.ne_of_lt (Nat.lt_succ_self _)) (.slice A1 heads.length c1)).cell 4).trans rfl
    have g4b := (B1.out.far (p := ⟨W.heap.size + 1 + 1, 6, none⟩) (Nat.ne_of_lt (Nat.lt_succ_self _)) (.slice A1 heads.length c1)).frozen 4
    have r5b : (w1.setCell ⟨W.heap.size + 1 + 1, 6, none⟩ (.slice A1 heads.length c1)).cell? ⟨W.heap.size + 1, 5, none⟩ = some (.string ⟨#[]⟩) := ((B1.out.far (p := ⟨W.heap.size + 1 + 1, 6, none⟩) (Nat.ne_of_lt (Nat.lt_succ_self _)) (.slice A1 heads.length c1)).cell 5).trans rfl
    have g5b := (B1.out.far (p := ⟨W.heap.size + 1 + 1, 6, none⟩) (Nat.ne_of_lt (Nat.lt_succ_self _)) (.slice A1 heads.length c1)).frozen 5
    have r6b : (w1.setCell ⟨W.heap.size + 1 + 1, 6, none⟩ (.slice A1 heads.length c1)).cell? ⟨W.heap.size + 1, 6, none⟩ = some (.slice none 0 0) := ((B1.out.far (p := ⟨W.heap.size + 1 + 1, 6, none⟩) (Nat.ne_of_lt (Nat.lt_succ_self _)) (.slice A1 heads.length c1)).cell 6).trans rfl
    have g6b := (B1.out.far (p := ⟨W.heap.size + 1 + 1, 6, none⟩) (Nat.ne_of_lt (Nat.lt_succ_self _)) (.slice A1 heads.length c1)).frozen 6
    have BX := Lib.hid (B1.out.far (p := ⟨W.heap.size + 1 + 1, 6, none⟩) (Nat.ne_of_lt (Nat.lt_succ_self _)) (.slice A1 heads.length c1))
    have HO3 := Lib.hid (own_off (own_set HO.out B2.out (by decide) 6 (.slice A1 heads.length c1)).1 (set7_off _ (W.heap.size + 1) (.int .i64 place) (.int .i64 time) (.bool bare) (.string key) (.bool gone) (.string value) (.slice A1 heads.length c1)) (own_ne (own_set HO.out B2.out (by decide) 6 (.slice A1 heads.length c1)).1 BX.out (by decide)))
    go_wp2
    refine bodyPost_ret (v := .agg #[.int .i64 place, .int .i64 time, .bool bare, .string key, .bool gone, .string value, .slice A1 heads.length c1]) ?_ rfl ⟨A1, c1, rfl, HO3.out, ?_⟩
    · exact copy_result (W.heap.size + 1) (set7_box BX.out _ _ _ _ _ _ _) _ rfl
    · have hz := hb1.out.size
      have h2 := hb1.out.setCell (p := ⟨W.heap.size + 1 + 1, 6, none⟩) (by show W.heap.size ≤ W.heap.size + 1 + 1; omega) (.slice A1 heads.length c1)
      exact h2.trans ((set7_off _ (W.heap.size + 1) _ _ _ _ _ _ _).below h2.size (fun k hk => by omega))
end Go.Proofs.YtjnphajkoopkgaaGreatDoor
/- The document's Same, at two readings of one record: true; by a contract (from the record layer's text). -/
namespace Go.Proofs.YtjnphajkoopkgaaGreatDoor
open Go.RowKit
set_option linter.unusedVariables false
theorem head_same (x y : ByteArray) (w : World) : (binOp .neq 87 (.agg #[.string x, .string y]) (.agg #[.string x, .string y])).run Tryz.prog w = .ok (.bool false) w := by
  simp [go_sem]
structure SameAt (W : World) (ca cb : Array Value) (w : World) : Prop where
  one : Box w W.heap.size 85 ca
  two : Box w (W.heap.size + 1) 85 cb
  bel : Below W.heap.size W w
theorem SameAt.start (W : World) (ca cb : Array Value) : SameAt W ca cb ((W.alloc (.cells ca 85)).alloc (.cells cb 85)) :=
  ⟨(Box.new _ _ _).alloc _, by have h := Box.new (W.alloc (.cells ca 85)) 85 cb; simpa using h, ((Below.refl _ _).alloc (Nat.le_refl _) _).alloc (by simp) _⟩
theorem SameAt.drewN {W w : World} {ca cb : Array Value} (h : SameAt W ca cb w) (n : Nat) : SameAt W ca cb (w.drewN n) := ⟨h.one.drewN n, h.two.drewN n, h.bel.trans ⟨rfl, rfl, rfl, Nat.le_refl _, fun _ _ => rfl⟩⟩
set_option maxHeartbeats 2000000 in
set_option maxRecDepth 100000 in
theorem rsame_c (r : Rec) (A B : Option Addr) (c d : Nat) (W : World) (hl : r.heads.length ≤ 1000) (hA : HIn W A r.heads) (hB : HIn W B r.heads) :
    Calls Tryz.prog 123 #[recV r A c, recV r B d] W (Good W (.bool true)) := by
  obtain ⟨place, time, bare, key, gone, value, heads⟩ := r
  have HA := Lib.hid hA
  have HB := Lib.hid hB
  simp only at HA HB
  clear hA hB
  unfold recV recC
  simp only at *
  have hs := fun x y w => head_same x y w
  go_enter Tryz.func123, Tryz.ntmps123
  go_wp2
  have HST : Hid (SameAt W #[.int .i64 place, .int .i64 time, .bool bare, .string key, .bool gone, .string value, .slice A heads.length c] #[.int .i64 place, .int .i64 time, .bool bare, .string key, .bool gone, .string value, .slice B heads.length d] ((W.alloc (.cells #[.int .i64 place, .int .i64 time, .bool bare, .string key, .bool gone, .string value, .slice A heads.length c] 85)).alloc (.cells #[.int .i64 place, .int .i64 time, .bool bare, .string key, .bool gone, .string value, .slice B heads.length d] 85))) := Lib.hid (SameAt.start W _ _)
  go_loopw [5] (fun i wr => ∃ k : Nat, i = .int .i64 k ∧ k ≤ heads.length ∧ SameAt W #[.int .i64 place, .int .i64 time, .bool bare, .string key, .bool gone, .string value, .slice A heads.length c] #[.int .i64 place, .int .i64 time, .bool bare, .string key, .bool gone, .string value, .slice B heads.length d] wr) (fun i _ => heads.length - (intOf i).toNat)
  case atStart => exact ⟨0, rfl, Nat.zero_le _, HST.out⟩
  case round =>
    obtain ⟨k, rfl, hkl, hS⟩ := hrel
    clear HST
    have x6 := (hS.one.cell 6).trans (show _ = some (Value.slice A heads.length c) from rfl)
    have y6 := (hS.two.cell 6).trans (show _ = some (Value.slice B heads.length d) from rfl)
    by_cases hk : k < heads.length
    · obtain ⟨b, off, rfl, hbl, q1, q2⟩ := (HA.out.below hS.bel).at_ hk
      obtain ⟨b', off', rfl, hbl', q1', q2'⟩ := (HB.out.below hS.bel).at_ hk
      have HS := Lib.hid hS
      clear hS
      have hki : (k : Int) < (heads.length : Int) := by omega
      have hk0 : (0 : Int) ≤ (k : Int) := by omega
      generalize heads[k].1 = z1 at *
      generalize heads[k].2 = z2 at *
      go_wp2
      go_quiet (fail)
      go_wp2
      go_roundw
      case rel => exact ⟨k + 1, by go_num, hk, HS.out.drewN _⟩
      case measure => simp [intOf]; omega
    · have hb := hS.bel
      clear hS
      go_wp2
      go_ret
      exact ⟨rfl, hb⟩
end Go.Proofs.YtjnphajkoopkgaaGreatDoor
/- The document's SameAll, and Same of batches, at two readings of one list: true; by contracts. -/
namespace Go.Proofs.YtjnphajkoopkgaaGreatDoor
open Go.RowKit
set_option linter.unusedVariables false
/-- The facts that a round of SameAll reads. -/
def SmS (W : World) (b o b' o' : Nat) (r : Rec) (A B : Option Addr) (c d : Nat) (w : World) : Prop :=
  RxAt w b o (r, A, c) ∧ RxAt w b' o' (r, B, d) ∧ b < w.heap.size ∧ b' < w.heap.size ∧ HIn w A r.heads ∧ HIn w B r.heads ∧ Below W.heap.size W w
theorem SmS.later {W w w' : World} {b o b' o' : Nat} {r : Rec} {A B : Option Addr} {c d : Nat} (h : SmS W b o b' o' r A B c d w) (hb : Below w.heap.size w w') : SmS W b o b' o' r A B c d w' := by
  obtain ⟨h1, h2, h3, h4, h5, h6, h7⟩ := h
  exact ⟨h1.below h3 hb, h2.below h4 hb, Nat.lt_of_lt_of_le h3 hb.size, Nat.lt_of_lt_of_le h4 hb.size, h5.below hb, h6.below hb, h7.trans (hb.mono h7.size)⟩
theorem SmS.out (W : World) (b o b' o' : Nat) (place time : Int) (bare gone : Bool) (key value : ByteArray) (heads : List Hd) (A B : Option Addr) (c d : Nat) (w : World) : SmS W b o b' o' ⟨place, time, bare, key, gone, value, heads⟩ A B c d w ↔
    (w.cell? ⟨b, o, none⟩ = some (.int .i64 place) ∧ w.cell? ⟨b, o + 1, none⟩ = some (.int .i64 time) ∧ w.cell? ⟨b, o + 2, none⟩ = some (.bool bare) ∧ w.cell? ⟨b, o + 3, none⟩ = some (.string key) ∧ w.cell? ⟨b, o + 4, none⟩ = some (.bool gone) ∧ w.cell? ⟨b, o + 5, none⟩ = some (.string value) ∧ w.cell? ⟨b, o + 6, none⟩ = some (.slice A heads.length c) ∧
     w.cell? ⟨b', o', none⟩ = some (.int .i64 place) ∧ w.cell? ⟨b', o' + 1, none⟩ = some (.int .i64 time) ∧ w.cell? ⟨b', o' + 2, none⟩ = some (.bool bare) ∧ w.cell? ⟨b', o' + 3, none⟩ = some (.string key) ∧ w.cell? ⟨b', o' + 4, none⟩ = some (.bool gone) ∧ w.cell? ⟨b', o' + 5, none⟩ = some (.string value) ∧ w.cell? ⟨b', o' + 6, none⟩ = some (.slice B heads.length d) ∧
     b < w.heap.size ∧ b' < w.heap.size ∧ HIn w A heads ∧ HIn w B heads ∧ Below W.heap.size W w) := by
  unfold SmS RxAt
  simp only [and_assoc]
set_option maxHeartbeats 8000000 in
set_option maxRecDepth 100000 in
theorem rsameAll_c (L M : List RX) (A B : Option Addr) (c d : Nat) (W : World) (hA : RsIn W A L) (hB : RsIn W B M) (he : L.map (·.1) = M.map (·.1)) (h50 : L.length ≤ 1000) (hh : ∀ x ∈ L, x.1.heads.length ≤ 1000) :
    Calls Tryz.prog 94 #[.slice A L.length c, .slice B M.length d] W (Good W (.bool true)) := by
  have hlen : M.length = L.length := by have := congrArg List.length he; simpa using this.symm
  rw [hlen]
  have HAB := Lib.hid (And.intro hA hB)
  have HE := Lib.hid (And.intro he hlen)
  clear hA hB he hlen
  go_enter Tryz.func94, Tryz.ntmps94
  go_wp2
  go_loopw [5] (fun i wr => ∃ k : Nat, i = .int .i64 k ∧ k ≤ L.length ∧ Below W.heap.size W wr) (fun i _ => L.length - (intOf i).toNat)
  case atStart => exact ⟨0, rfl, Nat.zero_le _, Below.refl _ _⟩
  case round =>
    obtain ⟨k, rfl, hkl, hS⟩ := hrel
    by_cases hk : k < L.length
    · obtain ⟨x, hx⟩ : ∃ x, L[k]? = some x := ⟨_, List.getElem?_eq_getElem hk⟩
      obtain ⟨y, hy⟩ : ∃ y, M[k]? = some y := ⟨_, List.getElem?_eq_getElem (by have := HE.out.2; omega)⟩
      have hxy : x.1 = y.1 := by
        have := congrArg (fun l => l[k]?) HE.out.1
        simpa [List.getElem?_map, hx, hy] using this
      obtain ⟨b, off, rfl, hbl, hca⟩ := (HAB.out.1.below hS) (by omega)
      obtain ⟨b', off', rfl, hbl', hcb⟩ := (HAB.out.2.below hS) (by have := HE.out.2; omega)
      obtain ⟨qa, ra⟩ := hca k x hx
      obtain ⟨qb, rb⟩ := hcb k y hy
      have hxl := hh x (List.mem_of_getElem? hx)
      obtain ⟨r, A1, c1⟩ := x
      obtain ⟨r', B1, d1⟩ := y
      obtain rfl : r = r' := hxy
      have hs : SmS W b (off + k * 7) b' (off' + k * 7) r A1 B1 c1 d1 wr := ⟨qa, qb, hbl, hbl', ra.heads, rb.heads, hS⟩
      have cs := fun w (h1 : HIn w A1 r.heads) (h2 : HIn w B1 r.heads) => rsame_c r A1 B1 c1 d1 w hxl h1 h2
      have hstep := fun w w' (h : SmS W b (off + k * 7) b' (off' + k * 7) r A1 B1 c1 d1 w) hb => SmS.later (w' := w') h hb
      obtain ⟨place, time, bare, key, gone, value, heads⟩ := r
      unfold recV recC at cs
      simp only at cs
      simp only [SmS.out] at hs hstep
      have HK := Lib.hid hk
      have hki : (k : Int) < (L.length : Int) := by omega
      have hk0 : (0 : Int) ≤ (k : Int) := by omega
      clear hca hcb qa qb ra rb hx hy hxl hh hbl hbl' hS
      obtain ⟨x0, x1, x2, x3, x4, x5, x6, y0, y1, y2, y3, y4, y5, y6, hs5⟩ := id hs
      go_wp2_with fail
      go_region_held3 (fun w => w.cell? ⟨b, off + k * 7, none⟩ = some (.int .i64 place) ∧ w.cell? ⟨b, off + k * 7 + 1, none⟩ = some (.int .i64 time) ∧ w.cell? ⟨b, off + k * 7 + 2, none⟩ = some (.bool bare) ∧ w.cell? ⟨b, off + k * 7 + 3, none⟩ = some (.string key) ∧ w.cell? ⟨b, off + k * 7 + 4, none⟩ = some (.bool gone) ∧ w.cell? ⟨b, off + k * 7 + 5, none⟩ = some (.string value) ∧ w.cell? ⟨b, off + k * 7 + 6, none⟩ = some (.slice A1 heads.length c1) ∧
     w.cell? ⟨b', off' + k * 7, none⟩ = some (.int .i64 place) ∧ w.cell? ⟨b', off' + k * 7 + 1, none⟩ = some (.int .i64 time) ∧ w.cell? ⟨b', off' + k * 7 + 2, none⟩ = some (.bool bare) ∧ w.cell? ⟨b', off' + k * 7 + 3, none⟩ = some (.string key) ∧ w.cell? ⟨b', off' + k * 7 + 4, none⟩ = some (.bool gone) ∧ w.cell? ⟨b', off' + k * 7 + 5, none⟩ = some (.string value) ∧ w.cell? ⟨b', off' + k * 7 + 6, none⟩ = some (.slice B1 heads.length d1) ∧
     b < w.heap.size ∧ b' < w.heap.size ∧ HIn w A1 heads ∧ HIn w B1 heads ∧ Below W.heap.size W w)
        (first | exact hstep _ _ hs ((Below.refl _ _).drew) | exact hstep _ _ (by assumption) (by assumption))
        (first | ((with_reducible refine (cs _ (by first | assumption | exact hs5.2.2.1.below ((Below.refl _ _).drew)) (by first | assumption | exact hs5.2.2.2.1.below ((Below.refl _ _).drew))).mono ?_); rintro e w2 ⟨rfl, hb2⟩))
      all_goals go_wp2_with fail
      all_goals go_roundw
      case rel => exact ⟨k + 1, by go_num, HK.out, hs5.2.2.2.2.trans ((((Below.refl _ _).drew).trans hb2).mono (by have := hs5.2.2.2.2.size; simpa using this))⟩
      case measure => simp [intOf]; omega
    · go_wp2
      go_ret
      exact ⟨rfl, hS⟩
end Go.Proofs.YtjnphajkoopkgaaGreatDoor
/- The document's CopyAll of records and Copy of a batch: new memory; by contracts. -/
namespace Go.Proofs.YtjnphajkoopkgaaGreatDoor
open Go.RowKit
set_option linter.unusedVariables false
/-- A copy of a list: the same records, in new memory. -/
def CopiedAll (W : World) (L : List RX) (en : Ending) (w' : World) : Prop := ∃ (M : List RX) (A : Option Addr) (c : Nat), M.map (·.1) = L.map (·.1) ∧ en = .returned (.slice A M.length c) ∧ RowR w' W.heap.size (.slice A M.length c) M ∧ Below W.heap.size W w'
structure CpS (W : World) (L : List RX) (k : Nat) (A : Option Addr) (c : Nat) (M : List RX) (w : World) : Prop where
  row : RowR w W.heap.size (.slice A M.length c) M
  bel : Below W.heap.size W w
  same : M.map (·.1) = (L.map (·.1)).take k
  len : M.length = k
theorem CpS.next {W w' : World} {L M : List RX} {k c c' : Nat} {A A' : Option Addr} {w : World} {x y : RX} (h : CpS W L k A c M w) (hx : L[k]? = some x) (hy : y.1 = x.1) (hr : RowR w' W.heap.size (.slice A' (M.length + 1) c') (M ++ [y])) (hb : Below W.heap.size W w') : CpS W L (k + 1) A' c' (M ++ [y]) w' := by
  obtain ⟨hk, he⟩ := List.getElem?_eq_some_iff.1 hx
  refine ⟨by rw [List.length_append]; exact hr, hb, ?_, by rw [List.length_append, h.len]; rfl⟩
  rw [List.take_succ_eq_append_getElem (by rw [List.length_map]; exact hk), List.map_append, h.same]
  simp [he, hy]
set_option maxHeartbeats 16000000 in
set_option maxRecDepth 100000 in
theorem rcopyAll_c (L : List RX) (A : Option Addr) (c : Nat) (W : World) (hA : RsIn W A L) (h50 : L.length ≤ 1000) (hh : ∀ x ∈ L, x.1.heads.length ≤ 1000) :
    Calls Tryz.prog 52 #[.slice A L.length c] W (CopiedAll W L) := by
  have H0 : Hid (CpS W L 0 none 0 [] W) := Lib.hid ⟨RowR.nil _ _, Below.refl _ _, rfl, rfl⟩
  have HA := Lib.hid hA
  clear hA
  obtain ⟨i0, hi, hz0, hz1, hz2⟩ := info_parts recInfo
  go_enter Tryz.func52, Tryz.ntmps52
  go_wp2_with fail
  go_loopw [3, 4] (fun l i wr => ∃ (k : Nat) (M : List RX) (B : Option Addr) (d : Nat), i = .int .i64 k ∧ k ≤ L.length ∧ l = .slice B M.length d ∧ CpS W L k B d M wr) (fun _ i _ => L.length - (intOf i).toNat)
  case atStart => exact ⟨0, [], none, 0, rfl, Nat.zero_le _, rfl, H0.out⟩
  case round =>
    obtain ⟨k, M, B, d, rfl, hkl, rfl, hS⟩ := hrel
    clear H0
    by_cases hk : k < L.length
    · obtain ⟨x, hx⟩ : ∃ x, L[k]? = some x := ⟨_, List.getElem?_eq_getElem hk⟩
      obtain ⟨b, off, rfl, hbl, hca⟩ := (HA.out.below hS.bel) (by omega)
      obtain ⟨⟨x0, x1, x2, x3, x4, x5, x6⟩, hR⟩ := hca k x hx
      have hxl := hh x (List.mem_of_getElem? hx)
      have HN := Lib.hid (fun w' A' c' (y : RX) => hS.next (w' := w') (A' := A') (c' := c') (y := y) hx)
      have HS := Lib.hid hS
      have HML := Lib.hid (show M.length ≤ 1000 by rw [hS.len]; omega)
      obtain ⟨r, A1, c1⟩ := x
      have cc := rcopy_c r A1 c1 wr hR hxl
      obtain ⟨place, time, bare, key, gone, value, heads⟩ := r
      unfold Copied recV recC at cc
      simp only at cc
      have hki : (k : Int) < (L.length : Int) := by omega
      clear hca hx hS hR hbl
      go_wp2_with fail
      (with_reducible refine cc.mono ?_)
      rintro en w1 ⟨A2, c2, rfl, hown, hb1⟩
      have hsz1 := HS.out.bel.size
      have hal2 : Below w1.heap.size w1 (w1.alloc (.cells #[.int .i64 place, .int .i64 time, .bool bare, .string key, .bool gone, .string value, .slice A2 heads.length c2] 85)) := (Below.refl _ _).alloc (Nat.le_refl _) _
      have HV2 := Lib.hid (And.intro ((HS.out.row.later hb1).later hal2) (And.intro (own_below (own_base hown hsz1) hal2) ((HS.out.bel.trans (hb1.mono hsz1)).trans (hal2.mono (Nat.le_trans hsz1 hb1.size)))))
      have hrow2 := HV2.out.1.row
      have hnews := news_at (Box.new w1 85 (recC ⟨place, time, bare, key, gone, value, heads⟩ A2 c2))
      have hone := rec_one ⟨place, time, bare, key, gone, value, heads⟩ A2 c2
      have hsz2 := HV2.out.2.2.size
      unfold recC at hnews hone
      simp only at hnews hone
      have HNW := Lib.hid (And.intro hnews hone)
      clear hal2 hnews hone hown hb1 cc
      go_wp2_with (at_builtin; refine wpList_append_own_at _ rfl _ _ 42 rfl W.heap.size 85 i0 _ 7 88 Tryz.underlying42 hi hz0 hz1 hz2 recC_zero (by decide) (.slice B M.length d) M.length (recsC M) rfl hrow2 ⟨w1.heap.size, 0, none⟩ 1 1 [.int .i64 place, .int .i64 time, .bool bare, .string key, .bool gone, .string value, .slice A2 heads.length c2] rfl rfl HNW.out.1 HNW.out.2 (by have := HML.out; unfold maxLen; omega) (by have := HML.out; omega) hsz2 ?_)
      intro v' w2 hown' hgrow _ _
      obtain ⟨g', cap', rfl⟩ : ∃ g' cap', v' = .slice (some ⟨g', 0, none⟩) (M.length + 1) cap' := by
        rcases hown'.2 with ⟨_, h0⟩ | ⟨g, cap, cur, hv, _⟩
        · omega
        · exact ⟨g, cap, hv⟩
      have HB2 := Lib.hid (HV2.out.2.2.grown hgrow hsz2 (fun j e => (hrow2.lt j e).1))
      have HR2 := Lib.hid (HV2.out.1.grow (x := (⟨place, time, bare, key, gone, value, heads⟩, A2, c2)) HV2.out.2.1 hown' hgrow)
      clear hown' hgrow hrow2
      go_wp2
      go_roundw
      case rel =>
        refine ⟨k + 1, M ++ [(⟨place, time, bare, key, gone, value, heads⟩, A2, c2)], some ⟨g', 0, none⟩, cap', by go_num, hk, ?_, HN.out _ _ _ _ rfl HR2.out HB2.out⟩
        rw [List.length_append]; rfl
      case measure => simp [intOf]; omega
    · have hF : M.map (·.1) = L.map (·.1) := by rw [hS.same, List.take_of_length_le (by rw [List.length_map]; omega)]
      have HF := Lib.hid (And.intro hF hS)
      clear hF hS
      go_wp2
      go_ret
      exact ⟨M, B, d, HF.out.1, rfl, HF.out.2.row, HF.out.2.bel⟩
/-- A copy of a batch. -/
def CopiedB (W : World) (b : BN) (L : List RX) (en : Ending) (w' : World) : Prop := ∃ (M : List RX) (A : Option Addr) (c : Nat), M.map (·.1) = L.map (·.1) ∧ en = .returned (.agg (bnC b (.slice A M.length c))) ∧ RowR w' W.heap.size (.slice A M.length c) M ∧ Below W.heap.size W w'
theorem cpb_result {w : World} (g : Nat) {v0 v1 v2 v3 v4 v5 : Value} (h : Box w g 44 #[v0, v1, v2, v3, v4, v5]) (tmps : Array Value) (ht : (tmps[2]?).getD undef = .pointer (some ⟨g, 0, none⟩)) :
    (results Tryz.f22 tmps).run Tryz.prog w = .ok (.agg #[v0, v1, v2, v3, v4, v5]) w := by
  have c0 := (h.cell 0).trans (show _ = some v0 from rfl)
  have c1 := (h.cell 1).trans (show _ = some v1 from rfl)
  have c2 := (h.cell 2).trans (show _ = some v2 from rfl)
  have c3 := (h.cell 3).trans (show _ = some v3 from rfl)
  have c4 := (h.cell 4).trans (show _ = some v4 from rfl)
  have c5 := (h.cell 5).trans (show _ = some v5 from rfl)
  simp [results, Tryz.results22, go_sem, ht, c0, c1, c2, c3, c4, c5]
set_option maxHeartbeats 16000000 in
set_option maxRecDepth 100000 in
theorem rcopy5_c (b : BN) (L : List RX) (A : Option Addr) (c : Nat) (W : World) (hA : RsIn W A L) (h50 : L.length ≤ 1000) (hh : ∀ x ∈ L, x.1.heads.length ≤ 1000) :
    Calls Tryz.prog 22 #[.agg (bnC b (.slice A L.length c))] W (CopiedB W b L) := by
  obtain ⟨base, span, prod, epoch, seq⟩ := b
  obtain ⟨W3, hW3⟩ : ∃ w, ((W.alloc (.cells #[.int .i64 base, .int .i64 span, .int .i64 prod, .int .i64 epoch, .int .i64 seq, .slice A L.length c] 44)).alloc (.cells #[.int .i64 0, .int .i64 0, .int .i64 0, .int .i64 0, .int .i64 0, .slice none 0 0] 44)).alloc (.cells #[.int .i64 base, .int .i64 span, .int .i64 prod, .int .i64 epoch, .int .i64 seq, .slice A L.length c] 44) = w := ⟨_, rfl⟩
  have hb3 : Below W.heap.size W W3 := by
    rw [← hW3]
    exact (((Below.refl _ W).alloc (Nat.le_refl _) _).alloc (by simp) _).alloc (by simp; omega) _
  have hx1 : Box W3 (W.heap.size + 1) 44 #[.int .i64 0, .int .i64 0, .int .i64 0, .int .i64 0, .int .i64 0, .slice none 0 0] := by
    rw [← hW3]
    have := Box.new (W.alloc (.cells #[.int .i64 base, .int .i64 span, .int .i64 prod, .int .i64 epoch, .int .i64 seq, .slice A L.length c] 44)) 44 #[.int .i64 0, .int .i64 0, .int .i64 0, .int .i64 0, .int .i64 0, .slice none 0 0]
    rw [World.size_alloc] at this
    exact this.alloc _
  have hx2 : Box W3 (W.heap.size + 1 + 1) 44 #[.int .i64 base, .int .i64 span, .int .i64 prod, .int .i64 epoch, .int .i64 seq, .slice A L.length c] := by
    rw [← hW3]
    have := Box.new ((W.alloc (.cells #[.int .i64 base, .int .i64 span, .int .i64 prod, .int .i64 epoch, .int .i64 seq, .slice A L.length c] 44)).alloc (.cells #[.int .i64 0, .int .i64 0, .int .i64 0, .int .i64 0, .int .i64 0, .slice none 0 0] 44)) 44 #[.int .i64 base, .int .i64 span, .int .i64 prod, .int .i64 epoch, .int .i64 seq, .slice A L.length c]
    rw [World.size_alloc, World.size_alloc] at this
    exact this
  have hx0 : W3.cell? ⟨W.heap.size, 5, none⟩ = some (.slice A L.length c) := by
    have hq : Box W3 W.heap.size 44 #[.int .i64 base, .int .i64 span, .int .i64 prod, .int .i64 epoch, .int .i64 seq, .slice A L.length c] := by
      rw [← hW3]
      exact ((Box.new W _ _).alloc _).alloc _
    exact (hq.cell 5).trans rfl
  have cc := rcopyAll_c L A c W3 (hA.below hb3) h50 hh
  have H3 := Lib.hid (And.intro hb3 (And.intro hx1 hx2))
  clear hb3 hx1 hx2 hA hh
  unfold bnC
  simp only
  go_enter Tryz.func22, Tryz.ntmps22
  go_wp2_with fail
  (with_reducible refine cc.mono ?_)
  rintro en w1 ⟨M, B, d, hM, rfl, hrow, hb1⟩
  have HM := Lib.hid hM
  have hs3 := H3.out.1.size
  have HV := Lib.hid (And.intro (H3.out.1.trans (hb1.mono hs3)) (And.intro (H3.out.2.1.later hb1) (And.intro (H3.out.2.2.later hb1) (hrow.base hs3))))
  have hfr := HV.out.2.2.1.frozen 5
  have hq5 := (HV.out.2.2.1.cell 5).trans (show _ = some (Value.slice A L.length c) from rfl)
  have hx2s : Box (w1.setCell ⟨W.heap.size + 1 + 1, 5, none⟩ (.slice B M.length d)) (W.heap.size + 1 + 1) 44 #[.int .i64 base, .int .i64 span, .int .i64 prod, .int .i64 epoch, .int .i64 seq, .slice B M.length d] := HV.out.2.2.1.set 5 _
  have hx1s := HV.out.2.1.far (p := ⟨W.heap.size + 1 + 1, 5, none⟩) (by show W.heap.size + 1 ≠ W.heap.size + 1 + 1; omega) (.slice B M.length d)
  have hrs := HV.out.2.2.2.set HV.out.2.2.1 (by decide) (by decide) 5 (.slice B M.length d)
  have hbs := HV.out.1.setCell (p := ⟨W.heap.size + 1 + 1, 5, none⟩) (by show W.heap.size ≤ W.heap.size + 1 + 1; omega) (.slice B M.length d)
  obtain ⟨y0, y1, y2, y3, y4, y5, _, _, _, _, _, _⟩ := box_six hx2s
  obtain ⟨z0, z1, z2, z3, z4, z5, f0, f1, f2, f3, f4, f5⟩ := box_six hx1s
  have HS := Lib.hid (And.intro hx1s (And.intro hrs hbs))
  clear hx1s hx2s hrs hbs hrow hb1 hM cc
  clear hW3
  go_wp2_with fail
  refine bodyPost_ret (v := .agg #[.int .i64 base, .int .i64 span, .int .i64 prod, .int .i64 epoch, .int .i64 seq, .slice B M.length d]) ?_ rfl ?_
  · exact cpb_result (W.heap.size + 1) (bset_box HS.out.1 _ _ _ _ _ _) _ rfl
  · exact ⟨M, B, d, HM.out, rfl, HS.out.2.1.bset HS.out.1 (by decide) (by decide) _ _ _ _ _ _, below_off HS.out.2.2 (bset_off _ _ _ _ _ _ _ _) (by omega)⟩
end Go.Proofs.YtjnphajkoopkgaaGreatDoor
/- The document's Same of two batches, at two readings of one: true; and Small. -/
namespace Go.Proofs.YtjnphajkoopkgaaGreatDoor
open Go.RowKit
set_option linter.unusedVariables false
set_option maxHeartbeats 8000000 in
set_option maxRecDepth 100000 in
theorem rsame5_c (b : BN) (L M : List RX) (A B : Option Addr) (c d : Nat) (W : World) (hA : RsIn W A L) (hB : RsIn W B M) (he : L.map (·.1) = M.map (·.1)) (h50 : L.length ≤ 1000) (hh : ∀ x ∈ L, x.1.heads.length ≤ 1000) :
    Calls Tryz.prog 55 #[.agg (bnC b (.slice A L.length c)), .agg (bnC b (.slice B M.length d))] W (Good W (.bool true)) := by
  obtain ⟨base, span, prod, epoch, seq⟩ := b
  unfold bnC
  simp only
  obtain ⟨W2, hW2⟩ : ∃ w, (W.alloc (.cells #[.int .i64 base, .int .i64 span, .int .i64 prod, .int .i64 epoch, .int .i64 seq, .slice A L.length c] 44)).alloc (.cells #[.int .i64 base, .int .i64 span, .int .i64 prod, .int .i64 epoch, .int .i64 seq, .slice B M.length d] 44) = w := ⟨_, rfl⟩
  have hb : Below W.heap.size W W2 := by
    rw [← hW2]
    exact ((Below.refl _ W).alloc (Nat.le_refl _) _).alloc (by simp) _
  have hx : Box W2 W.heap.size 44 #[.int .i64 base, .int .i64 span, .int .i64 prod, .int .i64 epoch, .int .i64 seq, .slice A L.length c] := by
    rw [← hW2]
    exact (Box.new W _ _).alloc _
  have hy : Box W2 (W.heap.size + 1) 44 #[.int .i64 base, .int .i64 span, .int .i64 prod, .int .i64 epoch, .int .i64 seq, .slice B M.length d] := by
    rw [← hW2]
    have := Box.new (W.alloc (.cells #[.int .i64 base, .int .i64 span, .int .i64 prod, .int .i64 epoch, .int .i64 seq, .slice A L.length c] 44)) 44 #[.int .i64 base, .int .i64 span, .int .i64 prod, .int .i64 epoch, .int .i64 seq, .slice B M.length d]
    rw [World.size_alloc] at this
    exact this
  have cs := rsameAll_c L M A B c d W2 (hA.below hb) (hB.below hb) he h50 hh
  obtain ⟨y0, y1, y2, y3, y4, y5, _, _, _, _, _, _⟩ := box_six hx
  obtain ⟨z0, z1, z2, z3, z4, z5, _, _, _, _, _, _⟩ := box_six hy
  have HB := Lib.hid hb
  clear hb hx hy hA hB he hh
  go_enter Tryz.func55, Tryz.ntmps55
  go_wp2_with fail
  (with_reducible refine cs.mono ?_)
  rintro en w2 ⟨rfl, hb2⟩
  have H2 := Lib.hid (HB.out.trans (hb2.mono HB.out.size))
  clear hb2 cs
  go_wp2
  go_ret
  exact ⟨rfl, H2.out⟩
end Go.Proofs.YtjnphajkoopkgaaGreatDoor
/- The document's SameAll of batches, at two readings of one list: true; by contracts. -/
namespace Go.Proofs.YtjnphajkoopkgaaGreatDoor
open Go.RowKit
set_option linter.unusedVariables false
def BxAt (w : World) (b o : Nat) (x : BX) : Prop :=
  w.cell? ⟨b, o, none⟩ = some (.int .i64 x.1.base) ∧ w.cell? ⟨b, o + 1, none⟩ = some (.int .i64 x.1.span) ∧ w.cell? ⟨b, o + 2, none⟩ = some (.int .i64 x.1.prod) ∧ w.cell? ⟨b, o + 3, none⟩ = some (.int .i64 x.1.epoch) ∧
    w.cell? ⟨b, o + 4, none⟩ = some (.int .i64 x.1.seq) ∧ w.cell? ⟨b, o + 5, none⟩ = some (.slice x.2.2.1 x.2.1.length x.2.2.2)
/-- A list of batches in memory. -/
def BsIn (w : World) (A : Option Addr) (L : List BX) : Prop :=
  0 < L.length → ∃ b off, A = some ⟨b, off, none⟩ ∧ b < w.heap.size ∧ ∀ j x, L[j]? = some x → BxAt w b (off + j * 6) x ∧ RsIn w x.2.2.1 x.2.1
theorem BxAt.below {w w' : World} {b o : Nat} {x : BX} (h : BxAt w b o x) (hl : b < w.heap.size) (hb : Below w.heap.size w w') : BxAt w' b o x := by
  obtain ⟨h0, h1, h2, h3, h4, h5⟩ := h
  have c := fun i => hb.cell (p := ⟨b, i, none⟩) hl
  exact ⟨(c _).trans h0, (c _).trans h1, (c _).trans h2, (c _).trans h3, (c _).trans h4, (c _).trans h5⟩
theorem BsIn.below {w w' : World} {A : Option Addr} {L : List BX} (h : BsIn w A L) (hb : Below w.heap.size w w') : BsIn w' A L := fun hp => by
  obtain ⟨b, off, e, hlt, hc⟩ := h hp
  exact ⟨b, off, e, Nat.lt_of_lt_of_le hlt hb.size, fun j x hx => ⟨(hc j x hx).1.below hlt hb, (hc j x hx).2.below hb⟩⟩
theorem batsC_at : ∀ {L : List BX} {j i : Nat} {x : BX}, L[j]? = some x → i < 6 → (batsC L)[j * 6 + i]? = (bnC x.1 (.slice x.2.2.1 x.2.1.length x.2.2.2))[i]?
  | [], j, i, x, h, _ => by cases h
  | y :: l, 0, i, x, h, hi => by
    have e : y = x := by simpa using h
    subst e
    have hl : (bnC y.1 (.slice y.2.2.1 y.2.1.length y.2.2.2)).toList.length = 6 := rfl
    show ((bnC y.1 (.slice y.2.2.1 y.2.1.length y.2.2.2)).toList ++ batsC l)[0 * 6 + i]? = _
    rw [List.getElem?_append_left (by omega), Nat.zero_mul, Nat.zero_add, Array.getElem?_toList]
  | y :: l, j + 1, i, x, h, hi => by
    have hl : (bnC y.1 (.slice y.2.2.1 y.2.1.length y.2.2.2)).toList.length = 6 := rfl
    show ((bnC y.1 (.slice y.2.2.1 y.2.1.length y.2.2.2)).toList ++ batsC l)[(j + 1) * 6 + i]? = _
    rw [List.getElem?_append_right (by omega), hl, show (j + 1) * 6 + i - 6 = j * 6 + i by omega]
    exact batsC_at (by simpa using h) hi
/-- A row of batches of the call's own is a list in memory, where the records may be. -/
theorem BtsR.bsin {w : World} {base c : Nat} {A : Option Addr} {L : List BX} (h : BtsR w base (.slice A L.length c) L) (hok : ∀ x ∈ L, ∀ y ∈ x.2.1, okRec y.1 = true) : BsIn w A L := fun hp => by
  have hrow := h.row
  rcases hrow.2 with ⟨hv, h0⟩ | ⟨g, cap, cur, hv, hg, hh, h4, h5, h6, h7⟩
  · omega
  · injection hv with e1 _ _
    refine ⟨g, 0, e1, lt_of_there hh, fun j x hx => ?_⟩
    have hj : j < L.length := (List.getElem?_eq_some_iff.1 hx).1
    have k : ∀ i, i < 6 → w.cell? ⟨g, 0 + j * 6 + i, none⟩ = (batsC L)[j * 6 + i]? := fun i hi => by
      subst e1
      have := hrow.cellAt (j * 6 + i) (by omega)
      rw [show 0 + j * 6 + i = j * 6 + i by omega]
      exact this
    have k2 : ∀ i, i < 6 → (batsC L)[j * 6 + i]? = (bnC x.1 (.slice x.2.2.1 x.2.1.length x.2.2.2))[i]? := fun i hi => batsC_at hx hi
    have hm := List.mem_of_getElem? hx
    refine ⟨⟨?_, ?_, ?_, ?_, ?_, ?_⟩, (h.recs x hm).rsin (hok x hm)⟩
    · exact (k 0 (by decide)).trans ((k2 0 (by decide)).trans rfl)
    · exact (k 1 (by decide)).trans ((k2 1 (by decide)).trans rfl)
    · exact (k 2 (by decide)).trans ((k2 2 (by decide)).trans rfl)
    · exact (k 3 (by decide)).trans ((k2 3 (by decide)).trans rfl)
    · exact (k 4 (by decide)).trans ((k2 4 (by decide)).trans rfl)
    · exact (k 5 (by decide)).trans ((k2 5 (by decide)).trans rfl)
def Sm5 (W : World) (b o b' o' : Nat) (n : BN) (X Y : List RX) (A B : Option Addr) (c d : Nat) (w : World) : Prop :=
  BxAt w b o (n, X, A, c) ∧ BxAt w b' o' (n, Y, B, d) ∧ b < w.heap.size ∧ b' < w.heap.size ∧ RsIn w A X ∧ RsIn w B Y ∧ Below W.heap.size W w
theorem Sm5.later {W w w' : World} {b o b' o' : Nat} {n : BN} {X Y : List RX} {A B : Option Addr} {c d : Nat} (h : Sm5 W b o b' o' n X Y A B c d w) (hb : Below w.heap.size w w') : Sm5 W b o b' o' n X Y A B c d w' := by
  obtain ⟨h1, h2, h3, h4, h5, h6, h7⟩ := h
  exact ⟨h1.below h3 hb, h2.below h4 hb, Nat.lt_of_lt_of_le h3 hb.size, Nat.lt_of_lt_of_le h4 hb.size, h5.below hb, h6.below hb, h7.trans (hb.mono h7.size)⟩
theorem Sm5.out (W : World) (b o b' o' : Nat) (base span prod epoch seq : Int) (X Y : List RX) (A1 B1 : Option Addr) (c1 d1 : Nat) (w : World) : Sm5 W b o b' o' ⟨base, span, prod, epoch, seq⟩ X Y A1 B1 c1 d1 w ↔
    (w.cell? ⟨b, o, none⟩ = some (.int .i64 base) ∧ w.cell? ⟨b, o + 1, none⟩ = some (.int .i64 span) ∧ w.cell? ⟨b, o + 2, none⟩ = some (.int .i64 prod) ∧ w.cell? ⟨b, o + 3, none⟩ = some (.int .i64 epoch) ∧ w.cell? ⟨b, o + 4, none⟩ = some (.int .i64 seq) ∧ w.cell? ⟨b, o + 5, none⟩ = some (.slice A1 X.length c1) ∧ w.cell? ⟨b', o', none⟩ = some (.int .i64 base) ∧ w.cell? ⟨b', o' + 1, none⟩ = some (.int .i64 span) ∧ w.cell? ⟨b', o' + 2, none⟩ = some (.int .i64 prod) ∧ w.cell? ⟨b', o' + 3, none⟩ = some (.int .i64 epoch) ∧ w.cell? ⟨b', o' + 4, none⟩ = some (.int .i64 seq) ∧ w.cell? ⟨b', o' + 5, none⟩ = some (.slice B1 Y.length d1) ∧ b < w.heap.size ∧ b' < w.heap.size ∧ RsIn w A1 X ∧ RsIn w B1 Y ∧ Below W.heap.size W w) := by
  unfold Sm5 BxAt
  simp only [and_assoc]
set_option maxHeartbeats 8000000 in
set_option maxRecDepth 100000 in
theorem rsameAll5_c (L M : List BX) (A B : Option Addr) (c d : Nat) (W : World) (hA : BsIn W A L) (hB : BsIn W B M) (he : L.map BX.told = M.map BX.told) (h50 : L.length ≤ 140737488351232) (hh : ∀ x ∈ L, x.2.1.length ≤ 1000 ∧ ∀ y ∈ x.2.1, y.1.heads.length ≤ 1000) :
    Calls Tryz.prog 24 #[.slice A L.length c, .slice B M.length d] W (Good W (.bool true)) := by
  have hlen : M.length = L.length := by have := congrArg List.length he; simpa using this.symm
  rw [hlen]
  have HAB := Lib.hid (And.intro hA hB)
  have HE := Lib.hid (And.intro he hlen)
  clear hA hB he hlen
  go_enter Tryz.func24, Tryz.ntmps24
  go_wp2
  go_loopw [5] (fun i wr => ∃ k : Nat, i = .int .i64 k ∧ k ≤ L.length ∧ Below W.heap.size W wr) (fun i _ => L.length - (intOf i).toNat)
  case atStart => exact ⟨0, rfl, Nat.zero_le _, Below.refl _ _⟩
  case round =>
    obtain ⟨k, rfl, hkl, hS⟩ := hrel
    by_cases hk : k < L.length
    · obtain ⟨x, hx⟩ : ∃ x, L[k]? = some x := ⟨_, List.getElem?_eq_getElem hk⟩
      obtain ⟨y, hy⟩ : ∃ y, M[k]? = some y := ⟨_, List.getElem?_eq_getElem (by have := HE.out.2; omega)⟩
      have hxy : x.told = y.told := by
        have := congrArg (fun l => l[k]?) HE.out.1
        simpa [List.getElem?_map, hx, hy] using this
      obtain ⟨b, off, rfl, hbl, hca⟩ := (HAB.out.1.below hS) (by omega)
      obtain ⟨b', off', rfl, hbl', hcb⟩ := (HAB.out.2.below hS) (by have := HE.out.2; omega)
      obtain ⟨qa, ra⟩ := hca k x hx
      obtain ⟨qb, rb⟩ := hcb k y hy
      obtain ⟨hxl, hxh⟩ := hh x (List.mem_of_getElem? hx)
      obtain ⟨n, X, A1, c1⟩ := x
      obtain ⟨n', Y, B1, d1⟩ := y
      unfold BX.told at hxy
      simp only [Prod.mk.injEq] at hxy
      obtain ⟨rfl, hXY⟩ := hxy
      have hs : Sm5 W b (off + k * 6) b' (off' + k * 6) n X Y A1 B1 c1 d1 wr := ⟨qa, qb, hbl, hbl', ra, rb, hS⟩
      have cs := fun w (h1 : RsIn w A1 X) (h2 : RsIn w B1 Y) => rsame5_c n X Y A1 B1 c1 d1 w h1 h2 hXY hxl hxh
      have hstep := fun w w' (h : Sm5 W b (off + k * 6) b' (off' + k * 6) n X Y A1 B1 c1 d1 w) hb => Sm5.later (w' := w') h hb
      obtain ⟨base, span, prod, epoch, seq⟩ := n
      unfold bnC at cs
      simp only at cs
      simp only [Sm5.out] at hs hstep
      have HK := Lib.hid hk
      have hki : (k : Int) < (L.length : Int) := by omega
      have hk0 : (0 : Int) ≤ (k : Int) := by omega
      clear hca hcb qa qb ra rb hx hy hxl hxh hXY hh hbl hbl' hS
      obtain ⟨x0, x1, x2, x3, x4, x5, y0, y1, y2, y3, y4, y5, hs5⟩ := id hs
      go_wp2_with fail
      go_region_held3 (fun w => w.cell? ⟨b, off + k * 6, none⟩ = some (.int .i64 base) ∧ w.cell? ⟨b, off + k * 6 + 1, none⟩ = some (.int .i64 span) ∧ w.cell? ⟨b, off + k * 6 + 2, none⟩ = some (.int .i64 prod) ∧ w.cell? ⟨b, off + k * 6 + 3, none⟩ = some (.int .i64 epoch) ∧ w.cell? ⟨b, off + k * 6 + 4, none⟩ = some (.int .i64 seq) ∧ w.cell? ⟨b, off + k * 6 + 5, none⟩ = some (.slice A1 X.length c1) ∧ w.cell? ⟨b', off' + k * 6, none⟩ = some (.int .i64 base) ∧ w.cell? ⟨b', off' + k * 6 + 1, none⟩ = some (.int .i64 span) ∧ w.cell? ⟨b', off' + k * 6 + 2, none⟩ = some (.int .i64 prod) ∧ w.cell? ⟨b', off' + k * 6 + 3, none⟩ = some (.int .i64 epoch) ∧ w.cell? ⟨b', off' + k * 6 + 4, none⟩ = some (.int .i64 seq) ∧ w.cell? ⟨b', off' + k * 6 + 5, none⟩ = some (.slice B1 Y.length d1) ∧ b < w.heap.size ∧ b' < w.heap.size ∧ RsIn w A1 X ∧ RsIn w B1 Y ∧ Below W.heap.size W w)
        (first | exact hstep _ _ hs ((Below.refl _ _).drew) | exact hstep _ _ (by assumption) (by assumption))
        (first | ((with_reducible refine (cs _ (by first | assumption | exact hs5.2.2.1.below ((Below.refl _ _).drew)) (by first | assumption | exact hs5.2.2.2.1.below ((Below.refl _ _).drew))).mono ?_); rintro e w2 ⟨rfl, hb2⟩))
      all_goals go_wp2_with fail
      all_goals go_roundw
      case rel => exact ⟨k + 1, by go_num, HK.out, hs5.2.2.2.2.trans ((((Below.refl _ _).drew).trans hb2).mono (by have := hs5.2.2.2.2.size; simpa using this))⟩
      case measure => simp [intOf]; omega
    · go_wp2
      go_ret
      exact ⟨rfl, hS⟩
end Go.Proofs.YtjnphajkoopkgaaGreatDoor
/- live: some answers that the document gives. Condition: the table of sums. -/
namespace Go.Proofs.YtjnphajkoopkgaaGreatDoor
open Go.RowKit
set_option linter.unusedVariables false
end Go.Proofs.YtjnphajkoopkgaaGreatDoor

/- The document's Small of a batch: what it says when it says yes. -/
namespace Go.Proofs.YtjnphajkoopkgaaGreatDoor
open Go.RowKit
set_option linter.unusedVariables false
def smallR (r : Rec) : Prop := r.heads.length ≤ 12 ∧ r.key.size ≤ 3000 ∧ r.value.size ≤ 3000 ∧ ∀ h ∈ r.heads, h.1.size ≤ 3000 ∧ h.2.size ≤ 3000
def SmallL (L : List RX) : Prop := L.length ≤ 50 ∧ ∀ x ∈ L, smallR x.1
def GotSm (W : World) (L : List RX) (en : Ending) (w' : World) : Prop := ∃ res, en = .returned (.bool res) ∧ (res = true → SmallL L) ∧ Below W.heap.size W w'
structure SmlS (W : World) (cs : Array Value) (L : List RX) (k : Nat) (w : World) : Prop where
  box : Box w W.heap.size 44 cs
  bel : Below W.heap.size W w
  all : ∀ x ∈ L.take k, smallR x.1
theorem SmlS.later {W w w' : World} {cs : Array Value} {L : List RX} {k : Nat} (h : SmlS W cs L k w) (hb : Below w.heap.size w w') : SmlS W cs L k w' := ⟨h.box.later hb, h.bel.trans (hb.mono h.bel.size), h.all⟩
theorem SmlS.next {W w w' : World} {cs : Array Value} {L : List RX} {k : Nat} {x : RX} (h : SmlS W cs L k w) (hb : Below w.heap.size w w') (hx : L[k]? = some x) (hs : smallR x.1) : SmlS W cs L (k + 1) w' := by
  refine ⟨(h.later hb).box, (h.later hb).bel, fun y hy => ?_⟩
  obtain ⟨hk, he⟩ := List.getElem?_eq_some_iff.1 hx
  rw [List.take_succ_eq_append_getElem hk, List.mem_append] at hy
  rcases hy with hy | hy
  · exact h.all y hy
  · simp at hy
    subst hy
    rw [he]; exact hs
/-- The inner loop's state. -/
structure SmhS (w0 : World) (g : Nat) (cs : Array Value) (A : Option Addr) (hs : List Hd) (k : Nat) (w : World) : Prop where
  box : Box w g 85 cs
  bel : Below w0.heap.size w0 w
  rin : HIn w A hs
  all : ∀ h ∈ hs.take k, h.1.size ≤ 3000 ∧ h.2.size ≤ 3000
theorem SmhS.later {w0 w w' : World} {g : Nat} {cs : Array Value} {A : Option Addr} {hs : List Hd} {k : Nat} (h : SmhS w0 g cs A hs k w) (hb : Below w.heap.size w w') : SmhS w0 g cs A hs k w' := ⟨h.box.later hb, h.bel.trans (hb.mono h.bel.size), h.rin.below hb, h.all⟩
theorem SmhS.next {w0 w : World} {g : Nat} {cs : Array Value} {A : Option Addr} {hs : List Hd} {k : Nat} (h : SmhS w0 g cs A hs k w) (hk : k < hs.length) (h1 : hs[k].1.size ≤ 3000) (h2 : hs[k].2.size ≤ 3000) : SmhS w0 g cs A hs (k + 1) w := by
  refine ⟨h.box, h.bel, h.rin, fun y hy => ?_⟩
  rw [List.take_succ_eq_append_getElem hk, List.mem_append] at hy
  rcases hy with hy | hy
  · exact h.all y hy
  · simp at hy
    subst hy
    exact ⟨h1, h2⟩
set_option maxHeartbeats 16000000 in
set_option maxRecDepth 100000 in
theorem rsmall_c (b : BN) (L : List RX) (A : Option Addr) (c : Nat) (W : World) (hA : RsIn W A L) (hlen : L.length ≤ 140737488351232) :
    Calls Tryz.prog 11 #[.agg (bnC b (.slice A L.length c))] W (GotSm W L) := by
  obtain ⟨base, span, prod, epoch, seq⟩ := b
  unfold bnC
  simp only
  obtain ⟨W1, hW1⟩ : ∃ w, W.alloc (.cells #[.int .i64 base, .int .i64 span, .int .i64 prod, .int .i64 epoch, .int .i64 seq, .slice A L.length c] 44) = w := ⟨_, rfl⟩
  have hS0 : SmlS W #[.int .i64 base, .int .i64 span, .int .i64 prod, .int .i64 epoch, .int .i64 seq, .slice A L.length c] L 0 W1 := by
    rw [← hW1]
    exact ⟨Box.new W _ _, (Below.refl _ W).alloc (Nat.le_refl _) _, fun x hx => by simp at hx⟩
  have y5 := (hS0.box.cell 5).trans (show _ = some (Value.slice A L.length c) from rfl)
  have HS0 := Lib.hid hS0
  have HA := Lib.hid hA
  clear hS0 hA
  by_cases h50 : 50 < L.length
  · have h50' : (50 : Int) < (L.length : Int) := by omega
    go_enter Tryz.func11, Tryz.ntmps11
    go_wp2_with fail
    go_ret
    exact ⟨false, rfl, (fun e => by cases e), HS0.out.bel⟩
  have h50' : ¬ (50 : Int) < (L.length : Int) := by omega
  go_enter Tryz.func11, Tryz.ntmps11
  go_wp2_with fail
  clear hW1 y5 h50'
  go_loopw [3, 4] (fun n i wr => ∃ (k m : Nat), i = .int .i64 k ∧ k ≤ L.length ∧ n = .int .i64 m ∧ m ≤ 3000 ∧ SmlS W #[.int .i64 base, .int .i64 span, .int .i64 prod, .int .i64 epoch, .int .i64 seq, .slice A L.length c] L k wr) (fun _ i _ => L.length - (intOf i).toNat)
  case atStart => exact ⟨0, 0, rfl, Nat.zero_le _, rfl, by omega, HS0.out⟩
  case round =>
    obtain ⟨k, m, rfl, hkl, rfl, hm, hS⟩ := hrel
    clear HS0
    have y5 := (hS.box.cell 5).trans (show _ = some (Value.slice A L.length c) from rfl)
    have HS := Lib.hid hS
    by_cases hk : k < L.length
    · obtain ⟨x, hx⟩ : ∃ x, L[k]? = some x := ⟨_, List.getElem?_eq_getElem hk⟩
      obtain ⟨bb, off, rfl, hbl, hca⟩ := (HA.out.below hS.bel) (by omega)
      obtain ⟨⟨x0, x1, x2, x3, x4, x5, x6⟩, hR⟩ := hca k x hx
      have HN := Lib.hid (fun w' hb (hs : smallR x.1) => hS.next (w' := w') hb hx hs)
      clear hca hx hS hbl
      obtain ⟨⟨place, time, bare, key, gone, value, heads⟩, A1, c1⟩ := x
      have hki : (k : Int) < (L.length : Int) := by omega
      have hhl : heads.length ≤ 140737488351232 := hR.len
      have hkz : key.size ≤ 1152921504606846976 := hR.key
      have hvz : value.size ≤ 1152921504606846976 := hR.value
      have hez := hR.each
      simp only at x0 x1 x2 x3 x4 x5 x6 hez
      obtain ⟨w0, hw0⟩ : ∃ w, wr.alloc (.cells #[.int .i64 place, .int .i64 time, .bool bare, .string key, .bool gone, .string value, .slice A1 heads.length c1] 85) = w := ⟨_, rfl⟩
      have hb0 : Below wr.heap.size wr w0 := by rw [← hw0]; exact (Below.refl _ _).alloc (Nat.le_refl _) _
      have hH : SmhS w0 wr.heap.size #[.int .i64 place, .int .i64 time, .bool bare, .string key, .bool gone, .string value, .slice A1 heads.length c1] A1 heads 0 w0 := by
        refine ⟨by rw [← hw0]; exact Box.new _ _ _, Below.refl _ _, hR.heads.below hb0, fun h hh => by simp at hh⟩
      have r3 := (hH.box.cell 3).trans (show _ = some (Value.string key) from rfl)
      have r5 := (hH.box.cell 5).trans (show _ = some (Value.string value) from rfl)
      have r6 := (hH.box.cell 6).trans (show _ = some (Value.slice A1 heads.length c1) from rfl)
      have HH := Lib.hid (And.intro hb0 hH)
      have HF := Lib.hid (HS.out.later hb0).bel
      clear hb0 hH hR
      by_cases h12 : 12 < heads.length
      · have h12' : (12 : Int) < (heads.length : Int) := by omega
        go_wp2_with fail
        go_ret
        exact ⟨false, rfl, (fun e => by cases e), HF.out⟩
      have h12' : ¬ (12 : Int) < (heads.length : Int) := by omega
      by_cases h13 : 3000 < key.size
      · have h13' : (3000 : Int) < (key.size : Int) := by omega
        go_wp2_with fail
        go_ret
        exact ⟨false, rfl, (fun e => by cases e), HF.out⟩
      have h13' : ¬ (3000 : Int) < (key.size : Int) := by omega
      by_cases h14 : 3000 < value.size
      · have h14' : (3000 : Int) < (value.size : Int) := by omega
        go_wp2_with fail
        go_ret
        exact ⟨false, rfl, (fun e => by cases e), HF.out⟩
      have h14' : ¬ (3000 : Int) < (value.size : Int) := by omega
      go_wp2_with fail
      clear hw0 r3 r5 h12' h13' h14'
      go_loopw [3, 6] (fun n j w => ∃ (j2 n2 : Nat), j = .int .i64 j2 ∧ j2 ≤ heads.length ∧ n = .int .i64 n2 ∧ n2 ≤ 9000 ∧ SmhS w0 wr.heap.size #[.int .i64 place, .int .i64 time, .bool bare, .string key, .bool gone, .string value, .slice A1 heads.length c1] A1 heads j2 w) (fun _ j _ => heads.length - (intOf j).toNat)
      case atStart => exact ⟨0, m + key.size + value.size, rfl, Nat.zero_le _, by simp, by omega, HH.out.2⟩
      case round =>
        obtain ⟨j2, n2, rfl, hj2, rfl, hn2, hI⟩ := hrel
        have r6' := (hI.box.cell 6).trans (show _ = some (Value.slice A1 heads.length c1) from rfl)
        clear r6
        by_cases hj : j2 < heads.length
        · by_cases hn : n2 ≤ 3000
          · obtain ⟨hb2, ho2, rfl, hl2, q1, q2⟩ := hI.rin.at_ hj
            have ez := hez _ (List.getElem_mem hj)
            have HIN := Lib.hid hI
            have HNX := Lib.hid (hI.next hj)
            have HB2 := Lib.hid (HF.out.trans (hI.bel.mono HF.out.size))
            clear hI hez
            have hji : (j2 : Int) < (heads.length : Int) := by omega
            have hni : (n2 : Int) ≤ 3000 := by omega
            generalize heads[j2].1 = z1 at *
            generalize heads[j2].2 = z2 at *
            by_cases h15 : 3000 < z1.size
            · have h15' : (3000 : Int) < (z1.size : Int) := by omega
              go_wp2_with fail
              go_ret
              exact ⟨false, rfl, (fun e => by cases e), HB2.out⟩
            have h15' : ¬ (3000 : Int) < (z1.size : Int) := by omega
            by_cases h16 : 3000 < z2.size
            · have h16' : (3000 : Int) < (z2.size : Int) := by omega
              go_wp2_with fail
              go_ret
              exact ⟨false, rfl, (fun e => by cases e), HB2.out⟩
            have h16' : ¬ (3000 : Int) < (z2.size : Int) := by omega
            go_wp2_with fail
            go_quiet (fail)
            go_wp2_with fail
            go_roundw
            case rel => exact ⟨j2 + 1, n2 + z1.size + z2.size, by go_num, hj, by simp, by omega, (HNX.out (by omega) (by omega)).later ⟨rfl, rfl, rfl, Nat.le_refl _, fun _ _ => rfl⟩⟩
            case measure => simp [intOf]; omega
          · have hn' : ¬ (n2 : Int) ≤ 3000 := by omega
            have hji : (j2 : Int) < (heads.length : Int) := by omega
            have HB2 := Lib.hid (HF.out.trans (hI.bel.mono HF.out.size))
            have hn3 : (3000 : Int) < (n2 : Int) := by omega
            clear hI hez
            go_wp2_with fail
            go_ret
            exact ⟨false, rfl, (fun e => by cases e), HB2.out⟩
        · have hji : ¬ (j2 : Int) < (heads.length : Int) := by omega
          have hsr : smallR ⟨place, time, bare, key, gone, value, heads⟩ := ⟨by show heads.length ≤ 12; omega, by show key.size ≤ 3000; omega, by show value.size ≤ 3000; omega, fun h hh => hI.all h (by rw [List.take_of_length_le (by omega)]; exact hh)⟩
          have HNN := Lib.hid (HN.out _ (HH.out.1.trans (hI.bel.mono HH.out.1.size)) hsr)
          have HB2 := Lib.hid (HF.out.trans (hI.bel.mono HF.out.size))
          clear hI hez hsr
          by_cases hn : n2 ≤ 3000
          · have hni : ¬ (3000 : Int) < (n2 : Int) := by omega
            go_wp2_with fail
            go_roundw
            case rel => exact ⟨k + 1, n2, by go_num, hk, rfl, hn, HNN.out⟩
            case measure => simp [intOf]; omega
          · have hni : (3000 : Int) < (n2 : Int) := by omega
            go_wp2_with fail
            go_ret
            exact ⟨false, rfl, (fun e => by cases e), HB2.out⟩
    · have hF : SmallL L := ⟨by omega, fun x hx => hS.all x (by rw [List.take_of_length_le (by omega)]; exact hx)⟩
      have HF := Lib.hid (And.intro hF hS.bel)
      clear hS hF
      go_wp2_with fail
      go_ret
      exact ⟨true, rfl, (fun _ => HF.out.1), HF.out.2⟩
end Go.Proofs.YtjnphajkoopkgaaGreatDoor

/- The law BatchEncodes walks to true for every batch. Condition: the table of sums. -/
namespace Go.Proofs.YtjnphajkoopkgaaGreatDoor
open Go.RowKit
set_option linter.unusedVariables false
theorem encsL_map (L : List RX) : encsL L = (L.map (·.1)).flatMap encL := by simp [encsL, List.flatMap_map]
theorem placedL_congr (span : Int) {L M : List RX} (last : Int) (h : M.map (·.1) = L.map (·.1)) : placedL span last M = placedL span last L := by rw [placedL_map, placedL_map, h]
theorem goodL_congr (span : Int) {L M : List RX} (last : Int) (h : M.map (·.1) = L.map (·.1)) : goodL span last M = goodL span last L := by
  rw [goodL_eq, goodL_eq, placedL_congr span last h]
  have e : ∀ K : List RX, (K.all fun x => okRec x.1) = (K.map (·.1)).all okRec := fun K => by simp [List.all_map, Function.comp_def]
  rw [e, e, h]
theorem bodyL_congr (b : BN) {L M : List RX} (h : M.map (·.1) = L.map (·.1)) : bodyL b M = bodyL b L := by
  have hl : M.length = L.length := by have := congrArg List.length h; simpa using this
  unfold bodyL
  rw [encsL_map, encsL_map, h, hl]
theorem batB_congr (b : BN) {L M : List RX} (h : M.map (·.1) = L.map (·.1)) : batB b M = batB b L := by
  have hl : M.length = L.length := by have := congrArg List.length h; simpa using this
  unfold batB
  rw [goodL_congr _ _ h, bodyL_congr b h, hl]
theorem smallR_rin {w : World} {r : Rec} {A : Option Addr} {c : Nat} (h : smallR r) (hh : HIn w A r.heads) : RIn w r A c := by
  obtain ⟨h1, h2, h3, h4⟩ := h
  exact ⟨hh, by omega, by omega, by omega, fun x hx => by have := h4 x hx; omega⟩
theorem RowR.rsinS {w : World} {base c : Nat} {A : Option Addr} {L : List RX} (h : RowR w base (.slice A L.length c) L) (hok : ∀ x ∈ L, smallR x.1) : RsIn w A L := fun hp => by
  have hrow := h.row
  rcases hrow.2 with ⟨hv, h0⟩ | ⟨g, cap, cur, hv, hg, hh, h4, h5, h6, h7⟩
  · omega
  · injection hv with e1 _ _
    refine ⟨g, 0, e1, lt_of_there hh, fun j x hx => ?_⟩
    have hj : j < L.length := (List.getElem?_eq_some_iff.1 hx).1
    have k : ∀ i, i < 7 → w.cell? ⟨g, 0 + j * 7 + i, none⟩ = (recsC L)[j * 7 + i]? := fun i hi => by
      subst e1
      have := hrow.cellAt (j * 7 + i) (by omega)
      rw [show 0 + j * 7 + i = j * 7 + i by omega]
      exact this
    have k2 : ∀ i, i < 7 → (recsC L)[j * 7 + i]? = (recC x.1 x.2.1 x.2.2)[i]? := fun i hi => recsC_at hx hi
    have hokx := hok x (List.mem_of_getElem? hx)
    refine ⟨⟨?_, ?_, ?_, ?_, ?_, ?_, ?_⟩, smallR_rin hokx (hin_of_own (h.heads x (List.mem_of_getElem? hx)))⟩
    · exact (k 0 (by decide)).trans ((k2 0 (by decide)).trans rfl)
    · exact (k 1 (by decide)).trans ((k2 1 (by decide)).trans rfl)
    · exact (k 2 (by decide)).trans ((k2 2 (by decide)).trans rfl)
    · exact (k 3 (by decide)).trans ((k2 3 (by decide)).trans rfl)
    · exact (k 4 (by decide)).trans ((k2 4 (by decide)).trans rfl)
    · exact (k 5 (by decide)).trans ((k2 5 (by decide)).trans rfl)
    · exact (k 6 (by decide)).trans ((k2 6 (by decide)).trans rfl)
/-- The cells of a batch's box. -/
def C6 (w : World) (g : Nat) (base span prod epoch seq : Int) (A : Option Addr) (n c : Nat) : Prop :=
  w.cell? ⟨g, 0, none⟩ = some (.int .i64 base) ∧ w.cell? ⟨g, 1, none⟩ = some (.int .i64 span) ∧ w.cell? ⟨g, 2, none⟩ = some (.int .i64 prod) ∧ w.cell? ⟨g, 3, none⟩ = some (.int .i64 epoch) ∧ w.cell? ⟨g, 4, none⟩ = some (.int .i64 seq) ∧ w.cell? ⟨g, 5, none⟩ = some (.slice A n c)
theorem C6.of {w : World} {g : Nat} {base span prod epoch seq : Int} {A : Option Addr} {n c : Nat} (h : Box w g 44 #[.int .i64 base, .int .i64 span, .int .i64 prod, .int .i64 epoch, .int .i64 seq, .slice A n c]) : C6 w g base span prod epoch seq A n c := by
  obtain ⟨y0, y1, y2, y3, y4, y5, _⟩ := box_six h
  exact ⟨y0, y1, y2, y3, y4, y5⟩
/-- Two boxes of one batch. -/
structure Two5 (W : World) (base span prod epoch seq : Int) (L M : List RX) (b1 b2 : Nat) (A B : Option Addr) (c d : Nat) (w : World) : Prop where
  one : Box w b1 44 #[.int .i64 base, .int .i64 span, .int .i64 prod, .int .i64 epoch, .int .i64 seq, .slice A L.length c]
  two : Box w b2 44 #[.int .i64 base, .int .i64 span, .int .i64 prod, .int .i64 epoch, .int .i64 seq, .slice B M.length d]
  r1 : RsIn w A L
  r2 : RsIn w B M
  bel : Below W.heap.size W w
  tab : Tab w
def TwoS5 (W : World) (base span prod epoch seq : Int) (L M : List RX) (b1 b2 : Nat) (A B : Option Addr) (c d : Nat) (w : World) : Prop :=
  C6 w b1 base span prod epoch seq A L.length c ∧ C6 w b2 base span prod epoch seq B M.length d ∧ Two5 W base span prod epoch seq L M b1 b2 A B c d w
section
variable {W w w' : World} {base span prod epoch seq : Int} {L M : List RX} {b1 b2 : Nat} {A B : Option Addr} {c d : Nat}
theorem Two5.later (h : Two5 W base span prod epoch seq L M b1 b2 A B c d w) (hb : Below w.heap.size w w') : Two5 W base span prod epoch seq L M b1 b2 A B c d w' :=
  ⟨h.one.later hb, h.two.later hb, h.r1.below hb, h.r2.below hb, h.bel.trans (hb.mono h.bel.size), h.tab.below hb⟩
theorem TwoS5.of (h : Two5 W base span prod epoch seq L M b1 b2 A B c d w) : TwoS5 W base span prod epoch seq L M b1 b2 A B c d w := ⟨C6.of h.one, C6.of h.two, h⟩
theorem TwoS5.r1 (h : TwoS5 W base span prod epoch seq L M b1 b2 A B c d w) : RsIn w A L := h.2.2.r1
theorem TwoS5.r2 (h : TwoS5 W base span prod epoch seq L M b1 b2 A B c d w) : RsIn w B M := h.2.2.r2
theorem TwoS5.tab (h : TwoS5 W base span prod epoch seq L M b1 b2 A B c d w) : Tab w := h.2.2.tab
theorem TwoS5.bel (h : TwoS5 W base span prod epoch seq L M b1 b2 A B c d w) : Below W.heap.size W w := h.2.2.bel
theorem TwoS5.step (h : TwoS5 W base span prod epoch seq L M b1 b2 A B c d w) (hb : Below w.heap.size w w') : TwoS5 W base span prod epoch seq L M b1 b2 A B c d w' := .of (h.2.2.later hb)
end
end Go.Proofs.YtjnphajkoopkgaaGreatDoor
