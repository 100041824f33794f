/- The document's disk: Copy, Names; Same. No condition. -/
import Derived.Test.YtpdimmkacjilgaaKdRen
import Derived.Deep.AppendLies
import Derived.Deep.RegionLaw
namespace Go.Proofs.Ytpdimmkacjilgaa
open Go.RowKit Go.Maps Go.ChangeMaps Go.WideMaps Go.Shelf
set_option linter.unusedVariables false
attribute [local go_sem ↓] Go.wp_at_zero Go.wp_at_succ
theorem below_drewX {B : Nat} {w w' : World} (h : Below B w w') : Below B w w'.drew := h.drew
def KCopies (W : World) (a : Ab) (e : Ending) (w' : World) : Prop := e = .returned (dp W.heap.size) ∧ KIs w' W.heap.size a (fun k => W.heap.size ≤ k) ∧ Below W.heap.size W w'
set_option maxHeartbeats 8000000 in
set_option maxRecDepth 100000 in
theorem kcopy_nil (q : Nat) (a : Ab) (W : World) (h : KAt W q a (.slice none 0 0)) (hL : a.L = []) : Calls Try.prog 33 #[dp q] W (KCopies W a) := by
  have y0 : W.cell? ⟨q, 0, none⟩ = some (.int .i64 a.room) := (h.box.cell 0).trans rfl
  have y1 : W.cell? ⟨q, 1, none⟩ = some (.slice none 0 0) := (h.box.cell 1).trans rfl
  have y2 : W.cell? ⟨q, 2, none⟩ = some (.int .i64 (fuseOf a)) := (h.box.cell 2).trans rfl
  have hql := h.box.lt
  have hb1 : Below W.heap.size W (W.alloc (.cells #[.int .i64 a.room, .slice none 0 0, .int .i64 (fuseOf a)] 31)).drew := ((Below.refl _ W).alloc (Nat.le_refl _) _).drew
  have k1 := And.intro (cell_later y0 hql hb1) (And.intro (cell_later y1 hql hb1) (cell_later y2 hql hb1))
  have hB1 : Box (W.alloc (.cells #[.int .i64 a.room, .slice none 0 0, .int .i64 (fuseOf a)] 31)).drew W.heap.size 31 #[.int .i64 a.room, .slice none 0 0, .int .i64 (fuseOf a)] := Box.new _ _ _
  have HX := Lib.hid (And.intro hb1 hB1)
  clear hb1 hB1 h
  unfold dp
  go_enter Try.func33, Try.ntmps33
  go_wp2_with fail
  go_region_held3 (fun w => w.cell? ⟨q, 0, none⟩ = some (.int .i64 a.room) ∧ w.cell? ⟨q, 1, none⟩ = some (.slice none 0 0) ∧ w.cell? ⟨q, 2, none⟩ = some (.int .i64 (fuseOf a))) (first | exact ⟨y0, y1, y2⟩ | exact k1) (fail)
  have y1' := k1.2.1
  clear y0 y1 y2 k1
  generalize (W.alloc (.cells #[.int .i64 a.room, .slice none 0 0, .int .i64 (fuseOf a)] 31)).drew = W1 at *
  have x1 : W1.cell? ⟨W.heap.size, 1, none⟩ = some (.slice none 0 0) := (HX.out.2.cell 1).trans rfl
  have z1 : W1.frozen? ⟨W.heap.size, 1, none⟩ = false := HX.out.2.frozen 1
  have hk : KAt (W1.setCell ⟨W.heap.size, 1, none⟩ (.slice none 0 0)) W.heap.size a (.slice none 0 0) := ⟨HX.out.2.set 1 _, by rw [hL]; exact World.ownsRow_nil _ _ _ _⟩
  have hbe : Below W.heap.size W (W1.setCell ⟨W.heap.size, 1, none⟩ (.slice none 0 0)) := HX.out.1.trans ((Off.one W1 ⟨W.heap.size, 1, none⟩ _).below HX.out.1.size (fun k e => by have e' : k = W.heap.size := e; omega))
  have HF := Lib.hid (And.intro (hk.later (Below.refl _ _).drew) (below_drewX hbe))
  clear hk hbe
  go_wp2_with fail
  go_region_with (fail)
  all_goals
    go_wp2
    go_ret
    exact ⟨rfl, ⟨_, HF.out.1, Nat.le_refl _, fun k hk => by cases hk⟩, HF.out.2⟩
set_option maxHeartbeats 16000000 in
set_option maxRecDepth 100000 in
theorem kcopy_some (q : Nat) (a : Ab) (W : World) (g cap : Nat) (h : KAt W q a (.slice (some ⟨g, 0, none⟩) a.L.length cap)) (hlen : a.L.length ≤ 1000000) (hpos : 0 < a.L.length) : Calls Try.prog 33 #[dp q] W (KCopies W a) := by
  have y0 : W.cell? ⟨q, 0, none⟩ = some (.int .i64 a.room) := (h.box.cell 0).trans rfl
  have y1 : W.cell? ⟨q, 1, none⟩ = some (.slice (some ⟨g, 0, none⟩) a.L.length cap) := (h.box.cell 1).trans rfl
  have y2 : W.cell? ⟨q, 2, none⟩ = some (.int .i64 (fuseOf a)) := (h.box.cell 2).trans rfl
  have hql := h.box.lt
  obtain ⟨i0, hinf, hz⟩ := Option.map_eq_some_iff.1 infoFile
  simp only [Prod.mk.injEq] at hz
  obtain ⟨hz0, hz1, hz2⟩ := hz
  have hb1 : Below W.heap.size W (W.alloc (.cells #[.int .i64 a.room, .slice none 0 0, .int .i64 (fuseOf a)] 31)).drew := ((Below.refl _ W).alloc (Nat.le_refl _) _).drew
  have k1 := And.intro (cell_later y0 hql hb1) (And.intro (cell_later y1 hql hb1) (cell_later y2 hql hb1))
  have hB1 : Box (W.alloc (.cells #[.int .i64 a.room, .slice none 0 0, .int .i64 (fuseOf a)] 31)).drew W.heap.size 31 #[.int .i64 a.room, .slice none 0 0, .int .i64 (fuseOf a)] := Box.new _ _ _
  have hK1 := h.later hb1
  have HX := Lib.hid (And.intro hb1 hB1)
  clear hb1 hB1 h
  unfold dp
  go_enter Try.func33, Try.ntmps33
  go_wp2_with fail
  go_region_held3 (fun w => w.cell? ⟨q, 0, none⟩ = some (.int .i64 a.room) ∧ w.cell? ⟨q, 1, none⟩ = some (.slice (some ⟨g, 0, none⟩) a.L.length cap) ∧ w.cell? ⟨q, 2, none⟩ = some (.int .i64 (fuseOf a))) (first | exact ⟨y0, y1, y2⟩ | exact k1) (fail)
  have y1' := k1.2.1
  clear y0 y1 y2 k1
  generalize (W.alloc (.cells #[.int .i64 a.room, .slice none 0 0, .int .i64 (fuseOf a)] 31)).drew = W1 at *
  have x1 : W1.cell? ⟨W.heap.size, 1, none⟩ = some (.slice none 0 0) := (HX.out.2.cell 1).trans rfl
  have hK2 := hK1.later (Below.refl _ W1).drew
  obtain ⟨p1, p2⟩ := piece_cells hK2 0 a.L.length (by omega)
  rw [List.drop_zero, List.take_length, Nat.zero_mul] at p2
  rw [List.drop_zero, List.take_length] at p1
  have hs1 : W.heap.size ≤ W1.drew.heap.size := HX.out.1.size
  have hlt1 : W.heap.size < W1.heap.size := HX.out.2.lt
  have hfin : ∀ (v' : Value) (w' : World), w'.ownsRow (W.heap.size + 1) 63 3 v' a.L.length (fileCells a.L) → W1.drew.grownBy w' none →
      w'.cell? ⟨W.heap.size, 1, none⟩ = some (.slice none 0 0) ∧ w'.frozen? ⟨W.heap.size, 1, none⟩ = false ∧ KIs (w'.setCell ⟨W.heap.size, 1, none⟩ v') W.heap.size a (fun k => W.heap.size ≤ k) ∧ Below W.heap.size W (w'.setCell ⟨W.heap.size, 1, none⟩ v') := by
    intro v' w' hown hgrow
    have hbx : Box w' W.heap.size 31 #[.int .i64 a.room, .slice none 0 0, .int .i64 (fuseOf a)] := box_row (w := W1.drew) HX.out.2 hgrow (fun k e => by cases e)
    have hb' : Below W.heap.size W w' := HX.out.1.drew.grown hgrow hs1 (fun k e => by cases e)
    refine ⟨(hbx.cell 1).trans rfl, hbx.frozen 1, ⟨v', ⟨hbx.set 1 v', ?_⟩, Nat.le_refl _, fun k hk => by have := (hown.lt k hk).1; omega⟩, hb'.trans ((Off.one w' ⟨W.heap.size, 1, none⟩ v').below hb'.size (fun k e => by have e' : k = W.heap.size := e; omega))⟩
    exact own_off (own_base hown (Nat.zero_le _)) (Off.one w' ⟨W.heap.size, 1, none⟩ v') (fun j hj e => by
      have h1 := (hown.lt j hj).1
      have e' : j = W.heap.size := e
      omega)
  have HF := Lib.hid hfin
  clear hfin hK1 hK2
  go_wp2_with fail
  go_region_law (refine step_append_lies W1.drew rfl (.tmp 18) (.tmp 22) 29 rfl (W.heap.size + 1) 63 i0 (.agg #[.string ⟨#[]⟩, .string ⟨#[]⟩, .int .i64 0]) 3 40 Try.underlying29 hinf hz0 hz1 hz2 rfl (by decide) (.slice none 0 0) 0 [] (by simp [Act.eval]) (World.ownsRow_nil _ _ _ _) ⟨g, 0, none⟩ a.L.length cap (fileCells a.L) (by simp [Act.eval]) p1 p2 cells_one hpos (by unfold maxLen; omega) (by omega) (by show _ ≤ W1.heap.size; omega) W1.heap.size rfl ?_; intro g2 cap2 w2 hown2 hgrow2 hg2 hg3; obtain ⟨f1, f2, f3⟩ := HF.out _ w2 (by simpa using hown2) hgrow2)
  all_goals
    have F3 := Lib.hid f3
    clear f3 hown2 hgrow2
    go_wp2
    go_ret
    exact ⟨rfl, F3.out.1, F3.out.2⟩
set_option maxHeartbeats 8000000 in
set_option maxRecDepth 100000 in
theorem kcopy_zero (q : Nat) (a : Ab) (W : World) (g cap : Nat) (h : KAt W q a (.slice (some ⟨g, 0, none⟩) 0 cap)) (hL : a.L = []) : Calls Try.prog 33 #[dp q] W (KCopies W a) := by
  have y0 : W.cell? ⟨q, 0, none⟩ = some (.int .i64 a.room) := (h.box.cell 0).trans rfl
  have y1 : W.cell? ⟨q, 1, none⟩ = some (.slice (some ⟨g, 0, none⟩) 0 cap) := (h.box.cell 1).trans rfl
  have y2 : W.cell? ⟨q, 2, none⟩ = some (.int .i64 (fuseOf a)) := (h.box.cell 2).trans rfl
  have hql := h.box.lt
  have hb1 : Below W.heap.size W (W.alloc (.cells #[.int .i64 a.room, .slice none 0 0, .int .i64 (fuseOf a)] 31)).drew := ((Below.refl _ W).alloc (Nat.le_refl _) _).drew
  have k1 := And.intro (cell_later y0 hql hb1) (And.intro (cell_later y1 hql hb1) (cell_later y2 hql hb1))
  have hB1 : Box (W.alloc (.cells #[.int .i64 a.room, .slice none 0 0, .int .i64 (fuseOf a)] 31)).drew W.heap.size 31 #[.int .i64 a.room, .slice none 0 0, .int .i64 (fuseOf a)] := Box.new _ _ _
  have HX := Lib.hid (And.intro hb1 hB1)
  clear hb1 hB1 h
  unfold dp
  go_enter Try.func33, Try.ntmps33
  go_wp2_with fail
  go_region_held3 (fun w => w.cell? ⟨q, 0, none⟩ = some (.int .i64 a.room) ∧ w.cell? ⟨q, 1, none⟩ = some (.slice (some ⟨g, 0, none⟩) 0 cap) ∧ w.cell? ⟨q, 2, none⟩ = some (.int .i64 (fuseOf a))) (first | exact ⟨y0, y1, y2⟩ | exact k1) (fail)
  have y1' := k1.2.1
  clear y0 y1 y2 k1
  generalize (W.alloc (.cells #[.int .i64 a.room, .slice none 0 0, .int .i64 (fuseOf a)] 31)).drew = W1 at *
  have x1 : W1.cell? ⟨W.heap.size, 1, none⟩ = some (.slice none 0 0) := (HX.out.2.cell 1).trans rfl
  have z1 : W1.frozen? ⟨W.heap.size, 1, none⟩ = false := HX.out.2.frozen 1
  have hk : KAt (W1.setCell ⟨W.heap.size, 1, none⟩ (.slice none 0 0)) W.heap.size a (.slice none 0 0) := ⟨HX.out.2.set 1 _, by rw [hL]; exact World.ownsRow_nil _ _ _ _⟩
  have hbe : Below W.heap.size W (W1.setCell ⟨W.heap.size, 1, none⟩ (.slice none 0 0)) := HX.out.1.trans ((Off.one W1 ⟨W.heap.size, 1, none⟩ _).below HX.out.1.size (fun k e => by have e' : k = W.heap.size := e; omega))
  have HF := Lib.hid (And.intro (hk.later (Below.refl _ _).drew) (below_drewX hbe))
  clear hk hbe
  go_wp2_with fail
  go_region_with (fail)
  all_goals
    go_wp2
    go_ret
    exact ⟨rfl, ⟨_, HF.out.1, Nat.le_refl _, fun k hk => by cases hk⟩, HF.out.2⟩
theorem kcopy_c (q : Nat) (a : Ab) (S : Nat → Prop) (W : World) (h : KIs W q a S) (hlen : a.L.length ≤ 1000000) : Calls Try.prog 33 #[dp q] W (KCopies W a) := by
  obtain ⟨v, h, _, _⟩ := h
  rcases h.shape with ⟨rfl, h2⟩ | ⟨g, cap, rfl⟩
  · exact kcopy_nil q a W h h2
  · by_cases h0 : a.L.length = 0
    · rw [h0] at h
      exact kcopy_zero q a W g cap h (List.length_eq_zero_iff.1 h0)
    · exact kcopy_some q a W g cap h hlen (by omega)
end Go.Proofs.Ytpdimmkacjilgaa
