/- The walk of DiskNil. No condition. -/
import Derived.Test.YtpdimmkacjilgaaDkLive
import Derived.Test.YtpdimmkacjilgaaDkOpen
namespace Go.Proofs.Ytpdimmkacjilgaa
open Go.RowKit Go.Maps Go.ChangeMaps Go.WideMaps Go.Shelf
set_option linter.unusedVariables false
namespace diskNil
set_option maxHeartbeats 4000000 in
set_option maxRecDepth 100000 in
theorem diskNil_walk (o : OpR) (W : World) (hi : OpIn W o) : Calls Try.prog 4 #[opV o] W (Good W (.bool true)) := by
  obtain ⟨dd, name, text, n, ad, c, keep⟩ := o
  have hbx := Box.new W 34 #[.int .i64 dd, .string name, .string text, .int .i64 n, .slice ad keep.length c]
  have y1 := (hbx.cell 1).trans rfl
  have y2 := (hbx.cell 2).trans rfl
  have y3 := (hbx.cell 3).trans rfl
  have y4 := (hbx.cell 4).trans rfl
  have cb := new_bad 0 (by omega) (by omega) (by omega)
  have c1 := read_nil name
  have c2 := copy_nil
  have c3 := app_nil name text
  have c4 := sync_nil name
  have c5 := cut_nil name n
  have c6 := rename_nil name text
  have c7 := drop_nil name
  have c8 := fun w => fuse_nil w n
  have c9 := names_nil
  have c10 := used_nil
  have c11 := room_nil
  have c12 := up_nil
  have c13 := fun w => crash_nil w (.slice ad keep.length c)
  have c14 := live_c
  clear hi hbx
  unfold opV
  simp only at *
  go_enter Try.func4, Try.ntmps4
  go_wp2_with (first
    | ((with_reducible refine (cb _).mono ?_); rintro en w1 ⟨rfl, hw⟩; (have hw' := hw.symm; subst hw'; clear hw))
    | ((with_reducible refine (c1 _).mono ?_); rintro en w1 ⟨rfl, hw⟩; (have hw' := hw.symm; subst hw'; clear hw))
    | ((with_reducible refine (c2 _).mono ?_); rintro en w1 ⟨rfl, hw⟩; (have hw' := hw.symm; subst hw'; clear hw))
    | ((with_reducible refine (c3 _).mono ?_); rintro en w1 ⟨rfl, hw⟩; (have hw' := hw.symm; subst hw'; clear hw))
    | ((with_reducible refine (c4 _).mono ?_); rintro en w1 ⟨rfl, hw⟩; (have hw' := hw.symm; subst hw'; clear hw))
    | ((with_reducible refine (c5 _).mono ?_); rintro en w1 ⟨rfl, hw⟩; (have hw' := hw.symm; subst hw'; clear hw))
    | ((with_reducible refine (c6 _).mono ?_); rintro en w1 ⟨rfl, hw⟩; (have hw' := hw.symm; subst hw'; clear hw))
    | ((with_reducible refine (c7 _).mono ?_); rintro en w1 ⟨rfl, hw⟩; (have hw' := hw.symm; subst hw'; clear hw))
    | ((with_reducible refine (c8 _).mono ?_); rintro en w1 ⟨rfl, hw⟩; (have hw' := hw.symm; subst hw'; clear hw))
    | ((with_reducible refine (c9 _).mono ?_); rintro en w1 ⟨rfl, hw⟩; (have hw' := hw.symm; subst hw'; clear hw))
    | ((with_reducible refine (c10 _).mono ?_); rintro en w1 ⟨rfl, hw⟩; (have hw' := hw.symm; subst hw'; clear hw))
    | ((with_reducible refine (c11 _).mono ?_); rintro en w1 ⟨rfl, hw⟩; (have hw' := hw.symm; subst hw'; clear hw))
    | ((with_reducible refine (c12 _).mono ?_); rintro en w1 ⟨rfl, hw⟩; (have hw' := hw.symm; subst hw'; clear hw))
    | ((with_reducible refine (c13 _).mono ?_); rintro en w1 ⟨rfl, hw⟩; (have hw' := hw.symm; subst hw'; clear hw))
    | ((with_reducible refine (c14 _).mono ?_); rintro en w1 ⟨rfl, hb⟩))
  go_ret
  exact ⟨rfl, ((Below.refl _ W).alloc (Nat.le_refl _) _).trans (hb.mono (by simp))⟩
end diskNil
end Go.Proofs.Ytpdimmkacjilgaa
