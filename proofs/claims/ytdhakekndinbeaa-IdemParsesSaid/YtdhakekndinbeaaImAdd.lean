/- idem: a window's add, by a contract. No condition. -/
import Derived.Test.YtdhakekndinbeaaImBase
import Derived.BigRegion
namespace Go.Proofs.Ytdhakekndinbeaa
open Go.RowKit
set_option linter.unusedVariables false
def updW (R : Nat → SN) (k : Nat) (s : SN) : Nat → SN := fun i => if i = k then s else R i
/-- One behind all others; of six the first one goes. -/
def Added (W : World) (b : Nat) (e : Int) (R : Nat → SN) (f c : Nat) (s : SN) (en : Ending) (w' : World) : Prop :=
  en = .returned (.tuple #[]) ∧ PrIs w' b e (updW R ((f + c) % 5) s) (if c = 5 then (f + 1) % 5 else f) (if c = 5 then 5 else c + 1) ∧ Off (· = b) W w'
theorem set3_off (w : World) (b i j k : Nat) (u v x : Value) : Off (· = b) w (((w.setCell ⟨b, i, none⟩ u).setCell ⟨b, j, none⟩ v).setCell ⟨b, k, none⟩ x) :=
  (((Off.refl (· = b) w).set (p := ⟨b, i, none⟩) (.inl rfl) u).set (p := ⟨b, j, none⟩) (.inl rfl) v).set (p := ⟨b, k, none⟩) (.inl rfl) x
set_option maxHeartbeats 16000000 in
set_option maxRecDepth 100000 in
theorem add_part (b : Nat) (e : Int) (R : Nat → SN) (f c : Nat) (s : SN) (W : World) (h : PrIs W b e R f c) (hc : c < 5) :
    Calls Try.prog 31 #[.pointer (some ⟨b, 1, none⟩), snV s] W (Added W b e R f c s) := by
  obtain ⟨_, x1, x2, hlt⟩ := h.cells
  have hf := h.f5
  obtain ⟨k, hk⟩ : ∃ k, (f + c) % 5 = k := ⟨_, rfl⟩
  have hk5 : k < 5 := by rw [← hk]; exact Nat.mod_lt _ (by decide)
  have hbx := h.box
  have hw : IntKind.i64.wrap ((f : Int) + (c : Int)) = (f : Int) + (c : Int) := by rw [IntKind.wrap_i64]; omega
  have hm : Int.tmod ((f : Int) + (c : Int)) 5 = (k : Int) := by rw [Int.tmod_eq_emod_of_nonneg (by omega), ← hk]; rfl
  have hw3 : IntKind.i64.wrap ((c : Int) + 1) = (c : Int) + 1 := by rw [IntKind.wrap_i64]; omega
  have hz : ((c : Int) == 5) = false := by simp; omega
  have hfz := fun i => hbx.frozen i
  have f17 := hfz 17
  unfold Added
  rw [hk, if_neg (by omega), if_neg (by omega)]
  clear hk
  unfold snV
  obtain ⟨s1, s2, s3⟩ := s
  simp only
  have hkk : k = 0 ∨ k = 1 ∨ k = 2 ∨ k = 3 ∨ k = 4 := by omega
  clear hk5 h
  rcases hkk with rfl | rfl | rfl | rfl | rfl
  · obtain ⟨r0, r1, r2⟩ : W.cell? ⟨b, 1, none⟩ = some (.int .i64 (R 0).1) ∧ W.cell? ⟨b, 2, none⟩ = some (.int .i64 (R 0).2.1) ∧ W.cell? ⟨b, 3, none⟩ = some (.int .i64 (R 0).2.2) := ⟨(hbx.cell 1).trans rfl, (hbx.cell 2).trans rfl, (hbx.cell 3).trans rfl⟩
    have g0 := hfz 1
    have g1 := hfz 2
    have g2 := hfz 3
    clear hfz
    go_enter Try.func31, Try.ntmps31
    go_wp2_with fail
    go_region
    all_goals
      go_wp2_with fail
      go_end0
      refine ⟨rfl, ⟨?_, hf, by omega⟩, ?_⟩
      · exact ((((hbx.set 1 (.int .i64 s1)).set 2 (.int .i64 s2)).set 3 (.int .i64 s3)).set 17 (.int .i64 ((c : Int) + 1))).alloc _
      · exact ((((((Off.refl (· = b) W).set (p := ⟨b, 1, none⟩) (.inl rfl) _).set (p := ⟨b, 2, none⟩) (.inl rfl) _).set (p := ⟨b, 3, none⟩) (.inl rfl) _).set (p := ⟨b, 17, none⟩) (.inl rfl) _).alloc _).drew
  · obtain ⟨r0, r1, r2⟩ : W.cell? ⟨b, 4, none⟩ = some (.int .i64 (R 1).1) ∧ W.cell? ⟨b, 5, none⟩ = some (.int .i64 (R 1).2.1) ∧ W.cell? ⟨b, 6, none⟩ = some (.int .i64 (R 1).2.2) := ⟨(hbx.cell 4).trans rfl, (hbx.cell 5).trans rfl, (hbx.cell 6).trans rfl⟩
    have g0 := hfz 4
    have g1 := hfz 5
    have g2 := hfz 6
    clear hfz
    go_enter Try.func31, Try.ntmps31
    go_wp2_with fail
    go_region
    all_goals
      go_wp2_with fail
      go_end0
      refine ⟨rfl, ⟨?_, hf, by omega⟩, ?_⟩
      · exact ((((hbx.set 4 (.int .i64 s1)).set 5 (.int .i64 s2)).set 6 (.int .i64 s3)).set 17 (.int .i64 ((c : Int) + 1))).alloc _
      · exact ((((((Off.refl (· = b) W).set (p := ⟨b, 4, none⟩) (.inl rfl) _).set (p := ⟨b, 5, none⟩) (.inl rfl) _).set (p := ⟨b, 6, none⟩) (.inl rfl) _).set (p := ⟨b, 17, none⟩) (.inl rfl) _).alloc _).drew
  · obtain ⟨r0, r1, r2⟩ : W.cell? ⟨b, 7, none⟩ = some (.int .i64 (R 2).1) ∧ W.cell? ⟨b, 8, none⟩ = some (.int .i64 (R 2).2.1) ∧ W.cell? ⟨b, 9, none⟩ = some (.int .i64 (R 2).2.2) := ⟨(hbx.cell 7).trans rfl, (hbx.cell 8).trans rfl, (hbx.cell 9).trans rfl⟩
    have g0 := hfz 7
    have g1 := hfz 8
    have g2 := hfz 9
    clear hfz
    go_enter Try.func31, Try.ntmps31
    go_wp2_with fail
    go_region
    all_goals
      go_wp2_with fail
      go_end0
      refine ⟨rfl, ⟨?_, hf, by omega⟩, ?_⟩
      · exact ((((hbx.set 7 (.int .i64 s1)).set 8 (.int .i64 s2)).set 9 (.int .i64 s3)).set 17 (.int .i64 ((c : Int) + 1))).alloc _
      · exact ((((((Off.refl (· = b) W).set (p := ⟨b, 7, none⟩) (.inl rfl) _).set (p := ⟨b, 8, none⟩) (.inl rfl) _).set (p := ⟨b, 9, none⟩) (.inl rfl) _).set (p := ⟨b, 17, none⟩) (.inl rfl) _).alloc _).drew
  · obtain ⟨r0, r1, r2⟩ : W.cell? ⟨b, 10, none⟩ = some (.int .i64 (R 3).1) ∧ W.cell? ⟨b, 11, none⟩ = some (.int .i64 (R 3).2.1) ∧ W.cell? ⟨b, 12, none⟩ = some (.int .i64 (R 3).2.2) := ⟨(hbx.cell 10).trans rfl, (hbx.cell 11).trans rfl, (hbx.cell 12).trans rfl⟩
    have g0 := hfz 10
    have g1 := hfz 11
    have g2 := hfz 12
    clear hfz
    go_enter Try.func31, Try.ntmps31
    go_wp2_with fail
    go_region
    all_goals
      go_wp2_with fail
      go_end0
      refine ⟨rfl, ⟨?_, hf, by omega⟩, ?_⟩
      · exact ((((hbx.set 10 (.int .i64 s1)).set 11 (.int .i64 s2)).set 12 (.int .i64 s3)).set 17 (.int .i64 ((c : Int) + 1))).alloc _
      · exact ((((((Off.refl (· = b) W).set (p := ⟨b, 10, none⟩) (.inl rfl) _).set (p := ⟨b, 11, none⟩) (.inl rfl) _).set (p := ⟨b, 12, none⟩) (.inl rfl) _).set (p := ⟨b, 17, none⟩) (.inl rfl) _).alloc _).drew
  · obtain ⟨r0, r1, r2⟩ : W.cell? ⟨b, 13, none⟩ = some (.int .i64 (R 4).1) ∧ W.cell? ⟨b, 14, none⟩ = some (.int .i64 (R 4).2.1) ∧ W.cell? ⟨b, 15, none⟩ = some (.int .i64 (R 4).2.2) := ⟨(hbx.cell 13).trans rfl, (hbx.cell 14).trans rfl, (hbx.cell 15).trans rfl⟩
    have g0 := hfz 13
    have g1 := hfz 14
    have g2 := hfz 15
    clear hfz
    go_enter Try.func31, Try.ntmps31
    go_wp2_with fail
    go_region
    all_goals
      go_wp2_with fail
      go_end0
      refine ⟨rfl, ⟨?_, hf, by omega⟩, ?_⟩
      · exact ((((hbx.set 13 (.int .i64 s1)).set 14 (.int .i64 s2)).set 15 (.int .i64 s3)).set 17 (.int .i64 ((c : Int) + 1))).alloc _
      · exact ((((((Off.refl (· = b) W).set (p := ⟨b, 13, none⟩) (.inl rfl) _).set (p := ⟨b, 14, none⟩) (.inl rfl) _).set (p := ⟨b, 15, none⟩) (.inl rfl) _).set (p := ⟨b, 17, none⟩) (.inl rfl) _).alloc _).drew
set_option maxHeartbeats 16000000 in
set_option maxRecDepth 100000 in
theorem add_full (b : Nat) (e : Int) (R : Nat → SN) (f : Nat) (s : SN) (W : World) (h : PrIs W b e R f 5) :
    Calls Try.prog 31 #[.pointer (some ⟨b, 1, none⟩), snV s] W (Added W b e R f 5 s) := by
  obtain ⟨_, x1, x2, hlt⟩ := h.cells
  have hf := h.f5
  have hbx := h.box
  have hfz := fun i => hbx.frozen i
  have f17 := hfz 17
  have f16 := hfz 16
  unfold Added
  rw [show (f + 5) % 5 = f by omega, if_pos rfl, if_pos rfl]
  unfold snV
  obtain ⟨s1, s2, s3⟩ := s
  simp only
  have hkk : f = 0 ∨ f = 1 ∨ f = 2 ∨ f = 3 ∨ f = 4 := by omega
  clear hf h
  rcases hkk with rfl | rfl | rfl | rfl | rfl
  · obtain ⟨r0, r1, r2⟩ : W.cell? ⟨b, 1, none⟩ = some (.int .i64 (R 0).1) ∧ W.cell? ⟨b, 2, none⟩ = some (.int .i64 (R 0).2.1) ∧ W.cell? ⟨b, 3, none⟩ = some (.int .i64 (R 0).2.2) := ⟨(hbx.cell 1).trans rfl, (hbx.cell 2).trans rfl, (hbx.cell 3).trans rfl⟩
    have g0 := hfz 1
    have g1 := hfz 2
    have g2 := hfz 3
    clear hfz
    go_enter Try.func31, Try.ntmps31
    go_wp2_with fail
    go_region
    all_goals
      go_wp2_with fail
      go_end0
      refine ⟨rfl, ⟨?_, by decide, by decide⟩, ?_⟩
      · exact ((((((hbx.set 16 (.int .i64 1)).set 17 (.int .i64 4)).set 1 (.int .i64 s1)).set 2 (.int .i64 s2)).set 3 (.int .i64 s3)).set 17 (.int .i64 5)).alloc _
      · exact ((((((((Off.refl (· = b) W).set (p := ⟨b, 16, none⟩) (.inl rfl) _).set (p := ⟨b, 17, none⟩) (.inl rfl) _).set (p := ⟨b, 1, none⟩) (.inl rfl) _).set (p := ⟨b, 2, none⟩) (.inl rfl) _).set (p := ⟨b, 3, none⟩) (.inl rfl) _).set (p := ⟨b, 17, none⟩) (.inl rfl) _).alloc _).drew
  · obtain ⟨r0, r1, r2⟩ : W.cell? ⟨b, 4, none⟩ = some (.int .i64 (R 1).1) ∧ W.cell? ⟨b, 5, none⟩ = some (.int .i64 (R 1).2.1) ∧ W.cell? ⟨b, 6, none⟩ = some (.int .i64 (R 1).2.2) := ⟨(hbx.cell 4).trans rfl, (hbx.cell 5).trans rfl, (hbx.cell 6).trans rfl⟩
    have g0 := hfz 4
    have g1 := hfz 5
    have g2 := hfz 6
    clear hfz
    go_enter Try.func31, Try.ntmps31
    go_wp2_with fail
    go_region
    all_goals
      go_wp2_with fail
      go_end0
      refine ⟨rfl, ⟨?_, by decide, by decide⟩, ?_⟩
      · exact ((((((hbx.set 16 (.int .i64 2)).set 17 (.int .i64 4)).set 4 (.int .i64 s1)).set 5 (.int .i64 s2)).set 6 (.int .i64 s3)).set 17 (.int .i64 5)).alloc _
      · exact ((((((((Off.refl (· = b) W).set (p := ⟨b, 16, none⟩) (.inl rfl) _).set (p := ⟨b, 17, none⟩) (.inl rfl) _).set (p := ⟨b, 4, none⟩) (.inl rfl) _).set (p := ⟨b, 5, none⟩) (.inl rfl) _).set (p := ⟨b, 6, none⟩) (.inl rfl) _).set (p := ⟨b, 17, none⟩) (.inl rfl) _).alloc _).drew
  · obtain ⟨r0, r1, r2⟩ : W.cell? ⟨b, 7, none⟩ = some (.int .i64 (R 2).1) ∧ W.cell? ⟨b, 8, none⟩ = some (.int .i64 (R 2).2.1) ∧ W.cell? ⟨b, 9, none⟩ = some (.int .i64 (R 2).2.2) := ⟨(hbx.cell 7).trans rfl, (hbx.cell 8).trans rfl, (hbx.cell 9).trans rfl⟩
    have g0 := hfz 7
    have g1 := hfz 8
    have g2 := hfz 9
    clear hfz
    go_enter Try.func31, Try.ntmps31
    go_wp2_with fail
    go_region
    all_goals
      go_wp2_with fail
      go_end0
      refine ⟨rfl, ⟨?_, by decide, by decide⟩, ?_⟩
      · exact ((((((hbx.set 16 (.int .i64 3)).set 17 (.int .i64 4)).set 7 (.int .i64 s1)).set 8 (.int .i64 s2)).set 9 (.int .i64 s3)).set 17 (.int .i64 5)).alloc _
      · exact ((((((((Off.refl (· = b) W).set (p := ⟨b, 16, none⟩) (.inl rfl) _).set (p := ⟨b, 17, none⟩) (.inl rfl) _).set (p := ⟨b, 7, none⟩) (.inl rfl) _).set (p := ⟨b, 8, none⟩) (.inl rfl) _).set (p := ⟨b, 9, none⟩) (.inl rfl) _).set (p := ⟨b, 17, none⟩) (.inl rfl) _).alloc _).drew
  · obtain ⟨r0, r1, r2⟩ : W.cell? ⟨b, 10, none⟩ = some (.int .i64 (R 3).1) ∧ W.cell? ⟨b, 11, none⟩ = some (.int .i64 (R 3).2.1) ∧ W.cell? ⟨b, 12, none⟩ = some (.int .i64 (R 3).2.2) := ⟨(hbx.cell 10).trans rfl, (hbx.cell 11).trans rfl, (hbx.cell 12).trans rfl⟩
    have g0 := hfz 10
    have g1 := hfz 11
    have g2 := hfz 12
    clear hfz
    go_enter Try.func31, Try.ntmps31
    go_wp2_with fail
    go_region
    all_goals
      go_wp2_with fail
      go_end0
      refine ⟨rfl, ⟨?_, by decide, by decide⟩, ?_⟩
      · exact ((((((hbx.set 16 (.int .i64 4)).set 17 (.int .i64 4)).set 10 (.int .i64 s1)).set 11 (.int .i64 s2)).set 12 (.int .i64 s3)).set 17 (.int .i64 5)).alloc _
      · exact ((((((((Off.refl (· = b) W).set (p := ⟨b, 16, none⟩) (.inl rfl) _).set (p := ⟨b, 17, none⟩) (.inl rfl) _).set (p := ⟨b, 10, none⟩) (.inl rfl) _).set (p := ⟨b, 11, none⟩) (.inl rfl) _).set (p := ⟨b, 12, none⟩) (.inl rfl) _).set (p := ⟨b, 17, none⟩) (.inl rfl) _).alloc _).drew
  · obtain ⟨r0, r1, r2⟩ : W.cell? ⟨b, 13, none⟩ = some (.int .i64 (R 4).1) ∧ W.cell? ⟨b, 14, none⟩ = some (.int .i64 (R 4).2.1) ∧ W.cell? ⟨b, 15, none⟩ = some (.int .i64 (R 4).2.2) := ⟨(hbx.cell 13).trans rfl, (hbx.cell 14).trans rfl, (hbx.cell 15).trans rfl⟩
    have g0 := hfz 13
    have g1 := hfz 14
    have g2 := hfz 15
    clear hfz
    go_enter Try.func31, Try.ntmps31
    go_wp2_with fail
    go_region
    all_goals
      go_wp2_with fail
      go_end0
      refine ⟨rfl, ⟨?_, by decide, by decide⟩, ?_⟩
      · exact ((((((hbx.set 16 (.int .i64 0)).set 17 (.int .i64 4)).set 13 (.int .i64 s1)).set 14 (.int .i64 s2)).set 15 (.int .i64 s3)).set 17 (.int .i64 5)).alloc _
      · exact ((((((((Off.refl (· = b) W).set (p := ⟨b, 16, none⟩) (.inl rfl) _).set (p := ⟨b, 17, none⟩) (.inl rfl) _).set (p := ⟨b, 13, none⟩) (.inl rfl) _).set (p := ⟨b, 14, none⟩) (.inl rfl) _).set (p := ⟨b, 15, none⟩) (.inl rfl) _).set (p := ⟨b, 17, none⟩) (.inl rfl) _).alloc _).drew
end Go.Proofs.Ytdhakekndinbeaa
