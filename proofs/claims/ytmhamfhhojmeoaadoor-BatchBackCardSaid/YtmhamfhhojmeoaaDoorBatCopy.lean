/- The document's copy of a record, by a contract (from the record layer's text). -/
import Derived.Test.YtmhamfhhojmeoaaDoorRecDec2
import Derived.Test.YtmhamfhhojmeoaaDoorPTake
import Derived.RegionTactic
import Derived.BigQuiet
import Derived.Deep.QuietTactic
import Derived.Deep.DeepCutAuto
namespace Go.Proofs.YtmhamfhhojmeoaaDoor
open Go.RowKit
set_option linter.unusedVariables false
theorem str_same (a b : ByteArray) : (a.toList == b.toList) = decide (a = b) := by
  rw [Bool.eq_iff_iff, beq_iff_eq, decide_eq_true_eq, ByteArray.toList_eq, ByteArray.toList_eq]
  constructor
  · intro h; exact ByteArray.ext (Array.ext' h)
  · rintro rfl; rfl
theorem hin_cells {w : World} {b off : Nat} {hs : List Hd} (h : HIn w (some ⟨b, off, none⟩) hs) : ∀ j u, (headCells hs)[j]? = some u → w.cell? ((⟨b, off, none⟩ : Addr).add j) = some u := by
  intro j u hj
  have hl : j < (headCells hs).length := (List.getElem?_eq_some_iff.1 hj).1
  rw [headCells_len] at hl
  obtain ⟨b', off', e, _, hc⟩ := h (by omega)
  injection e with e
  injection e with e1 e2 _
  subst e1
  subst e2
  have hi : j / 2 < hs.length := by omega
  obtain ⟨q1, q2⟩ := hc (j / 2) _ (List.getElem?_eq_getElem hi)
  obtain ⟨p1, p2⟩ := headCells_at (List.getElem?_eq_getElem hi)
  have ea : (⟨b, off, none⟩ : Addr).add j = ⟨b, off + j, none⟩ := by unfold Addr.add; split <;> simp_all
  rw [ea]
  rcases (by omega : j = j / 2 * 2 ∨ j = j / 2 * 2 + 1) with e | e
  · rw [e] at hj
    rw [p1] at hj
    rw [e, q1]
    exact hj
  · rw [e] at hj
    rw [p2] at hj
    rw [e, show off + (j / 2 * 2 + 1) = off + j / 2 * 2 + 1 by omega, q2]
    exact hj
theorem headCells_one (hs : List Hd) : ∀ u ∈ headCells hs, u.oneCell' = true := by
  intro u hu
  simp only [headCells, List.mem_flatMap] at hu
  obtain ⟨h, _, hm⟩ := hu
  simp at hm
  rcases hm with rfl | rfl <;> rfl
/-- A copy of a record: the same fields, its headers in new memory. -/
def Copied (W : World) (r : Rec) (e : Ending) (w' : World) : Prop := ∃ A c, e = .returned (recV r A c) ∧ w'.ownsRow W.heap.size 51 2 (.slice A r.heads.length c) r.heads.length (headCells r.heads) ∧ Below W.heap.size W w'
theorem copy_result {w : World} (g : Nat) {v0 v1 v2 v3 v4 v5 v6 : Value} (h : Box w g 49 #[v0, v1, v2, v3, v4, v5, v6]) (tmps : Array Value) (ht : (tmps[2]?).getD undef = .pointer (some ⟨g, 0, none⟩)) :
    (results Tryd.f36 tmps).run Tryd.prog w = .ok (.agg #[v0, v1, v2, v3, v4, v5, v6]) w := by
  have c0 := (h.cell 0).trans (show _ = some v0 from rfl)
  have c1 := (h.cell 1).trans (show _ = some v1 from rfl)
  have c2 := (h.cell 2).trans (show _ = some v2 from rfl)
  have c3 := (h.cell 3).trans (show _ = some v3 from rfl)
  have c4 := (h.cell 4).trans (show _ = some v4 from rfl)
  have c5 := (h.cell 5).trans (show _ = some v5 from rfl)
  have c6 := (h.cell 6).trans (show _ = some v6 from rfl)
  simp [results, Tryd.results36, go_sem, ht, c0, c1, c2, c3, c4, c5, c6]
set_option maxHeartbeats 2000000 in
set_option maxRecDepth 100000 in
theorem rcopy_c (r : Rec) (A : Option Addr) (c : Nat) (W : World) (hR : RIn W r A c) (hc : r.heads.length ≤ 1000) :
    Calls Tryd.prog 36 #[recV r A c] W (Copied W r) := by
  obtain ⟨place, time, bare, key, gone, value, heads⟩ := r
  have HH := Lib.hid hR.heads
  simp only at HH
  clear hR
  unfold recV recC
  simp only at *
  have HB2 := Lib.hid ((Box.new ((W.alloc (.cells #[.int .i64 place, .int .i64 time, .bool bare, .string key, .bool gone, .string value, .slice A heads.length c] 49)).alloc (.cells #[.int .i64 0, .int .i64 0, .bool false, .string ⟨#[]⟩, .bool false, .string ⟨#[]⟩, .slice none 0 0] 49)) 49 #[.int .i64 place, .int .i64 time, .bool bare, .string key, .bool gone, .string value, .slice none 0 0]))
  have HB1 := Lib.hid ((Box.new (W.alloc (.cells #[.int .i64 place, .int .i64 time, .bool bare, .string key, .bool gone, .string value, .slice A heads.length c] 49)) 49 #[.int .i64 0, .int .i64 0, .bool false, .string ⟨#[]⟩, .bool false, .string ⟨#[]⟩, .slice none 0 0]).alloc (.cells #[.int .i64 place, .int .i64 time, .bool bare, .string key, .bool gone, .string value, .slice none 0 0] 49))
  have hbel := Lib.hid ((((Below.refl W.heap.size W).alloc (Nat.le_refl _) (.cells #[.int .i64 place, .int .i64 time, .bool bare, .string key, .bool gone, .string value, .slice A heads.length c] 49)).alloc (by simp) (.cells #[.int .i64 0, .int .i64 0, .bool false, .string ⟨#[]⟩, .bool false, .string ⟨#[]⟩, .slice none 0 0] 49)).alloc (by simp; omega) (.cells #[.int .i64 place, .int .i64 time, .bool bare, .string key, .bool gone, .string value, .slice none 0 0] 49))
  simp only [World.size_alloc] at HB1 HB2
  obtain ⟨i0, hi, hz0, hz1, hz2⟩ := info_parts infoHeader
  cases A with
  | none =>
    have hnil : heads = [] := by
      cases heads with
      | nil => rfl
      | cons x l =>
        obtain ⟨b, off, e, _⟩ := HH.out (by simp)
        cases e
    subst hnil
    go_enter Tryd.func36, Tryd.ntmps36
    have happ : ∀ w : World, (Builtin.append_ #[47, 47] 47 #[.slice none 0 0, .slice none 0 c]).run Tryd.prog w = .ok (.slice none 0 0) w := fun w => by
      simp [Builtin.append_, run_underlying Tryd.underlying47, sizeOf, typeInfo, hi, Builtin.lenOf, Builtin.firstCells]
    go_wp2
    refine bodyPost_ret (v := .agg #[.int .i64 place, .int .i64 time, .bool bare, .string key, .bool gone, .string value, .slice none 0 0]) (by simp [results, Tryd.results36, go_sem]) rfl ⟨none, 0, rfl, World.ownsRow_nil _ _ _ _, ?_⟩
    exact (((Below.refl _ _).alloc (Nat.le_refl _) _).alloc (by simp) _).alloc (by simp; omega) _
  | some a =>
    have hnews : Hid (∀ j u, (headCells heads)[j]? = some u → ((((W.alloc (.cells #[.int .i64 place, .int .i64 time, .bool bare, .string key, .bool gone, .string value, .slice (some a) heads.length c] 49)).alloc (.cells #[.int .i64 0, .int .i64 0, .bool false, .string ⟨#[]⟩, .bool false, .string ⟨#[]⟩, .slice none 0 0] 49)).alloc (.cells #[.int .i64 place, .int .i64 time, .bool bare, .string key, .bool gone, .string value, .slice none 0 0] 49))).cell? (a.add j) = some u) := Lib.hid (by
      intro j u hj
      have hl : j < (headCells heads).length := (List.getElem?_eq_some_iff.1 hj).1
      rw [headCells_len] at hl
      obtain ⟨b, off, e, hb, _⟩ := HH.out (by omega)
      injection e with e
      subst e
      exact hin_cells (HH.out.below ((((Below.refl _ _).alloc (Nat.le_refl _) _).alloc (by simp) _).alloc (by simp; omega) _)) j u hj)
    have hlen := headCells_len heads
    have HLN := Lib.hid hlen
    clear hlen
    go_enter Tryd.func36, Tryd.ntmps36
    go_wp2_with (at_builtin; refine wpList_append_own _ rfl _ _ 47 rfl W.heap.size 51 i0 (.agg #[.string ⟨#[]⟩, .string ⟨#[]⟩]) 2 32 Tryd.underlying47 hi hz0 hz1 hz2 rfl (by decide) _ _ _ rfl (World.ownsRow_nil _ _ _ _) a heads.length c (headCells heads) rfl HLN.out hnews.out ?c2 ?c3 ?c4 ?c5 ?_)
    case c2 => exact headCells_one heads
    case c3 => unfold maxLen; omega
    case c4 => omega
    case c5 => simp; omega
    intro v' w1 hown hgrow _
    obtain ⟨A1, c1, hv⟩ := own_slice hown
    subst hv
    have B1 := Lib.hid (HB1.out.kept_by hgrow (.inl rfl))
    have B2 := Lib.hid (HB2.out.kept_by hgrow (.inl rfl))
    have hb1 := Lib.hid (hbel.out.grown hgrow (by simp; omega) (fun k hk => by cases hk))
    have HO := Lib.hid hown
    clear hown hgrow
    have y0 : w1.cell? ⟨W.heap.size + 1 + 1, 0, none⟩ = some (.int .i64 place) := (B2.out.cell 0).trans rfl
    have y1 : w1.cell? ⟨W.heap.size + 1 + 1, 1, none⟩ = some (.int .i64 time) := (B2.out.cell 1).trans rfl
    have y2 : w1.cell? ⟨W.heap.size + 1 + 1, 2, none⟩ = some (.bool bare) := (B2.out.cell 2).trans rfl
    have y3 : w1.cell? ⟨W.heap.size + 1 + 1, 3, none⟩ = some (.string key) := (B2.out.cell 3).trans rfl
    have y4 : w1.cell? ⟨W.heap.size + 1 + 1, 4, none⟩ = some (.bool gone) := (B2.out.cell 4).trans rfl
    have y5 : w1.cell? ⟨W.heap.size + 1 + 1, 5, none⟩ = some (.string value) := (B2.out.cell 5).trans rfl
    have y6 : w1.cell? ⟨W.heap.size + 1 + 1, 6, none⟩ = some (.slice none 0 0) := (B2.out.cell 6).trans rfl
    have r0 : w1.cell? ⟨W.heap.size + 1, 0, none⟩ = some (.int .i64 0) := (B1.out.cell 0).trans rfl
    have g0 := B1.out.frozen 0
    have r1 : w1.cell? ⟨W.heap.size + 1, 1, none⟩ = some (.int .i64 0) := (B1.out.cell 1).trans rfl
    have g1 := B1.out.frozen 1
    have r2 : w1.cell? ⟨W.heap.size + 1, 2, none⟩ = some (.bool false) := (B1.out.cell 2).trans rfl
    have g2 := B1.out.frozen 2
    have r3 : w1.cell? ⟨W.heap.size + 1, 3, none⟩ = some (.string ⟨#[]⟩) := (B1.out.cell 3).trans rfl
    have g3 := B1.out.frozen 3
    have r4 : w1.cell? ⟨W.heap.size + 1, 4, none⟩ = some (.bool false) := (B1.out.cell 4).trans rfl
    have g4 := B1.out.frozen 4
    have r5 : w1.cell? ⟨W.heap.size + 1, 5, none⟩ = some (.string ⟨#[]⟩) := (B1.out.cell 5).trans rfl
    have g5 := B1.out.frozen 5
    have r6 : w1.cell? ⟨W.heap.size + 1, 6, none⟩ = some (.slice none 0 0) := (B1.out.cell 6).trans rfl
    have g6 := B1.out.frozen 6
    have f6 := B2.out.frozen 6
    have y0b : (w1.setCell ⟨W.heap.size + 1 + 1, 6, none⟩ (.slice A1 heads.length c1)).cell? ⟨W.heap.size + 1 + 1, 0, none⟩ = some (.int .i64 place) := ((B2.out.set 6 (.slice A1 heads.length c1)).cell 0).trans rfl
    have y1b : (w1.setCell ⟨W.heap.size + 1 + 1, 6, none⟩ (.slice A1 heads.length c1)).cell? ⟨W.heap.size + 1 + 1, 1, none⟩ = some (.int .i64 time) := ((B2.out.set 6 (.slice A1 heads.length c1)).cell 1).trans rfl
    have y2b : (w1.setCell ⟨W.heap.size + 1 + 1, 6, none⟩ (.slice A1 heads.length c1)).cell? ⟨W.heap.size + 1 + 1, 2, none⟩ = some (.bool bare) := ((B2.out.set 6 (.slice A1 heads.length c1)).cell 2).trans rfl
    have y3b : (w1.setCell ⟨W.heap.size + 1 + 1, 6, none⟩ (.slice A1 heads.length c1)).cell? ⟨W.heap.size + 1 + 1, 3, none⟩ = some (.string key) := ((B2.out.set 6 (.slice A1 heads.length c1)).cell 3).trans rfl
    have y4b : (w1.setCell ⟨W.heap.size + 1 + 1, 6, none⟩ (.slice A1 heads.length c1)).cell? ⟨W.heap.size + 1 + 1, 4, none⟩ = some (.bool gone) := ((B2.out.set 6 (.slice A1 heads.length c1)).cell 4).trans rfl
    have y5b : (w1.setCell ⟨W.heap.size + 1 + 1, 6, none⟩ (.slice A1 heads.length c1)).cell? ⟨W.heap.size + 1 + 1, 5, none⟩ = some (.string value) := ((B2.out.set 6 (.slice A1 heads.length c1)).cell 5).trans rfl
    have y6b : (w1.setCell ⟨W.heap.size + 1 + 1, 6, none⟩ (.slice A1 heads.length c1)).cell? ⟨W.heap.size + 1 + 1, 6, none⟩ = some (.slice A1 heads.length c1) := ((B2.out.set 6 (.slice A1 heads.length c1)).cell 6).trans rfl
    have r0b : (w1.setCell ⟨W.heap.size + 1 + 1, 6, none⟩ (.slice A1 heads.length c1)).cell? ⟨W.heap.size + 1, 0, none⟩ = some (.int .i64 0) := ((B1.out.far (p := ⟨W.heap.size + 1 + 1, 6, none⟩) (Nat.ne_of_lt (Nat.lt_succ_self _)) (.slice A1 heads.length c1)).cell 0).trans rfl
    have g0b := (B1.out.far (p := ⟨W.heap.size + 1 + 1, 6, none⟩) (Nat.ne_of_lt (Nat.lt_succ_self _)) (.slice A1 heads.length c1)).frozen 0
    have r1b : (w1.setCell ⟨W.heap.size + 1 + 1, 6, none⟩ (.slice A1 heads.length c1)).cell? ⟨W.heap.size + 1, 1, none⟩ = some (.int .i64 0) := ((B1.out.far (p := ⟨W.heap.size + 1 + 1, 6, none⟩) (Nat.ne_of_lt (Nat.lt_succ_self _)) (.slice A1 heads.length c1)).cell 1).trans rfl
    have g1b := (B1.out.far (p := ⟨W.heap.size + 1 + 1, 6, none⟩) (Nat.ne_of_lt (Nat.lt_succ_self _)) (.slice A1 heads.length c1)).frozen 1
    have r2b : (w1.setCell ⟨W.heap.size + 1 + 1, 6, none⟩ (.slice A1 heads.length c1)).cell? ⟨W.heap.size + 1, 2, none⟩ = some (.bool false) := ((B1.out.far (p := ⟨W.heap.size + 1 + 1, 6, none⟩) (Nat.ne_of_lt (Nat.lt_succ_self _)) (.slice A1 heads.length c1)).cell 2).trans rfl
    have g2b := (B1.out.far (p := ⟨W.heap.size + 1 + 1, 6, none⟩) (Nat.ne_of_lt (Nat.lt_succ_self _)) (.slice A1 heads.length c1)).frozen 2
    have r3b : (w1.setCell ⟨W.heap.size + 1 + 1, 6, none⟩ (.slice A1 heads.length c1)).cell? ⟨W.heap.size + 1, 3, none⟩ = some (.string ⟨#[]⟩) := ((B1.out.far (p := ⟨W.heap.size + 1 + 1, 6, none⟩) (Nat.ne_of_lt (Nat.lt_succ_self _)) (.slice A1 heads.length c1)).cell 3).trans rfl
    have g3b := (B1.out.far (p := ⟨W.heap.size + 1 + 1, 6, none⟩) (Nat.ne_of_lt (Nat.lt_succ_self _)) (.slice A1 heads.length c1)).frozen 3
    have r4b : (w1.setCell ⟨W.heap.size + 1 + 1, 6, none⟩ (.slice A1 heads.length c1)).cell? ⟨W.heap.size + 1, 4, none⟩ = some (.bool false) := ((B1.out.far (p := ⟨W.heap.size + 1 + 1, 6, none⟩) (Nat.ne_of_lt (Nat.lt_succ_self _)) (.slice A1 heads.length c1)).cell 4).trans rfl
    have g4b := (B1.out.far (p := ⟨W.heap.size + 1 + 1, 6, none⟩) (Nat.ne_of_lt (Nat.lt_succ_self _)) (.slice A1 heads.length c1)).frozen 4
    have r5b : (w1.setCell ⟨W.heap.size + 1 + 1, 6, none⟩ (.slice A1 heads.length c1)).cell? ⟨W.heap.size + 1, 5, none⟩ = some (.string ⟨#[]⟩) := ((B1.out.far (p := ⟨W.heap.size + 1 + 1, 6, none⟩) (Nat.ne_of_lt (Nat.lt_succ_self _)) (.slice A1 heads.length c1)).cell 5).trans rfl
    have g5b := (B1.out.far (p := ⟨W.heap.size + 1 + 1, 6, none⟩) (Nat.ne_of_lt (Nat.lt_succ_self _)) (.slice A1 heads.length c1)).frozen 5
    have r6b : (w1.setCell ⟨W.heap.size + 1 + 1, 6, none⟩ (.slice A1 heads.length c1)).cell? ⟨W.heap.size + 1, 6, none⟩ = some (.slice none 0 0) := ((B1.out.far (p := ⟨W.heap.size + 1 + 1, 6, none⟩) (Nat.ne_of_lt (Nat.lt_succ_self _)) (.slice A1 heads.length c1)).cell 6).trans rfl
    have g6b := (B1.out.far (p := ⟨W.heap.size + 1 + 1, 6, none⟩) (Nat.ne_of_lt (Nat.lt_succ_self _)) (.slice A1 heads.length c1)).frozen 6
    have BX := Lib.hid (B1.out.far (p := ⟨W.heap.size + 1 + 1, 6, none⟩) (Nat.ne_of_lt (Nat.lt_succ_self _)) (.slice A1 heads.length c1))
    have HO3 := Lib.hid (own_off (own_set HO.out B2.out (by decide) 6 (.slice A1 heads.length c1)).1 (set7_off _ (W.heap.size + 1) (.int .i64 place) (.int .i64 time) (.bool bare) (.string key) (.bool gone) (.string value) (.slice A1 heads.length c1)) (own_ne (own_set HO.out B2.out (by decide) 6 (.slice A1 heads.length c1)).1 BX.out (by decide)))
    go_wp2
    refine bodyPost_ret (v := .agg #[.int .i64 place, .int .i64 time, .bool bare, .string key, .bool gone, .string value, .slice A1 heads.length c1]) ?_ rfl ⟨A1, c1, rfl, HO3.out, ?_⟩
    · exact copy_result (W.heap.size + 1) (set7_box BX.out _ _ _ _ _ _ _) _ rfl
    · have hz := hb1.out.size
      have h2 := hb1.out.setCell (p := ⟨W.heap.size + 1 + 1, 6, none⟩) (by show W.heap.size ≤ W.heap.size + 1 + 1; omega) (.slice A1 heads.length c1)
      exact h2.trans ((set7_off _ (W.heap.size + 1) _ _ _ _ _ _ _).below h2.size (fun k hk => by omega))
end Go.Proofs.YtmhamfhhojmeoaaDoor
