/- offsets: maps.DeleteFunc at its own keys, by a contract. No condition. -/
import Derived.Test.YtlkhfgkgngcakaaOfInv
import Derived.Lib.SlMapFilter
import Derived.Maps.Ext
import Derived.Maps.RangeWalk
import Derived.Laws.IdiomRangeMap
import Derived.Deep.LoopGhost
import Derived.Shelf.Abstract
namespace Go.Proofs.Ytlkhfgkgngcakaa
open Go.RowKit Go.Maps Go.ChangeMaps Go.WideMaps
set_option linter.unusedVariables false
theorem tokI_of {v : Value} {y : DataW Unit × List MemPlace} (h : tokI v = some y) : ∃ a : Int, v = .int .i64 a ∧ y = (.lit (.int .i64 a), []) := by
  unfold tokI at h
  split at h
  · injection h with h
    exact ⟨_, rfl, h.symm⟩
  · cases h
set_option maxHeartbeats 8000000 in
set_option maxRecDepth 100000 in
theorem dfun_c (pd : Lit → DataW Unit → Bool) (gf : Nat) (cb : Array Value) (g n : Nat) (D : DataW Unit) (w : World) (eg : ∀ args w, (callFunc gf args).run Try.prog w = .ok (.enter gf args) w)
    (hown : w.ownsMap Try.prog 45 tokI g n D)
    (hdel : ∀ (W : World) (k : KY) (a : Int) (kl : Lit), w.grownBy W (some g) → keyOf Try.prog 45 (kyV k) = some kl →
      Calls Try.prog gf (#[.agg #[.string k.g, .string k.t, .int .i64 k.i], .int .i64 a] ++ cb) W fun e w' => e = .returned (.bool (pd kl (.lit (.int .i64 a)))) ∧ W.grownBy w' none) :
    Calls Try.prog 47 #[.map (some g), .func (.func gf) #[] cb] w fun e w' => e = .returned (.tuple #[]) ∧ w'.ownsMap Try.prog 45 tokI g n (Lib.deleteFuncD pd D) ∧ w.grownBy w' (some g) := by
  obtain ⟨es0, rfl, hap, hkeys⟩ := hown.entries kyKeyed
  have HD := Lib.hid hdel
  clear hdel
  go_enter Try.func47, Try.ntmps47
  go_wp2_with (first
    | (at_range; refine wpList_range_own _ rfl _ 57 rfl 45 3 kyKeyed Try.underlying57 tokI g n _ rfl hown ?_; intro w0 hrg0 hg0 hs0)
    | go_in)
  go_frame
  go_loopw [8] (fun _ wr => ∃ (left : Lit → Bool) (cnt : Nat), wr.ranges Try.prog 45 tokI g w.heap.size n (Fk pd es0 left) left cnt ∧ w.grownBy wr (some g))
    (fun _ wr => wr.rangeLeft g w.heap.size)
  case atStart => exact ⟨_, _, by rw [Fk_start hkeys]; exact hrg0, hg0.but _⟩
  case round =>
    obtain ⟨left, cnt, hrg, hgw⟩ := hrel
    go_wp2_with (first
      | (at_next; refine wpList_next_ranges (α := KY) (β := Int) _ rfl _ rfl 45 kyKeyed tokI kyV (Value.int .i64) (fun key _ hk => by obtain ⟨k, hk1, _⟩ := kyInv hk; exact ⟨k, hk1⟩) (fun v _ hv => by obtain ⟨a, ha, _⟩ := tokI_of hv; exact ⟨a, ha⟩) g w.heap.size n _ _ _ rfl hrg ?_ ?_)
      | go_in)
    · intro _ hl0
      go_wp2
      go_end0
      exact ⟨rfl, by rw [← Fk_end hl0]; exact hrg.owns, hgw⟩
    · intro x c kl yd yp w1 cnt1 hkey hlx hv hat hrg1 hlt hg1 hs1 hen
      obtain ⟨a', ha', hyy⟩ := tokI_of hv
      obtain rfl : yd = .lit (.int .i64 a') := congrArg Prod.fst hyy
      clear hyy
      injection ha' with _ ha'
      subst ha'
      have hgw1 := hgw.andThen hg1 (fun j hj => by cases hj; exact Or.inl (Nat.le_refl _))
      have hgA := World.grownBy_alloc w1 (.cells #[.string x.g, .string x.t, .int .i64 x.i] 45) none
      have hrgA := hrg1.kept hgA (by simp) (by simp)
      have hgwA := hgw1.andThen hgA (fun j hj => by cases hj)
      have hc := HD.out _ x c kl hgwA hkey
      have hbl := hrg1.owns.lt
      have hrl := hrg1.lt
      have hbx := Box.new w1 45 #[.string x.g, .string x.t, .int .i64 x.i]
      have b0 := (hbx.cell 0).trans (show _ = some (Value.string x.g) from rfl)
      have b1 := (hbx.cell 1).trans (show _ = some (Value.string x.t) from rfl)
      have b2 := (hbx.cell 2).trans (show _ = some (Value.int .i64 x.i) from rfl)
      rw [hs1] at b0 b1 b2
      have hen' := hen
      unfold kyV at hen'
      have hkey' := hkey
      unfold kyV at hkey'
      clear hbx hen
      cases hp : pd kl (.lit (.int .i64 c)) <;> rw [hp] at hc
      · unfold kyV
        go_wp2_with (first
          | (go_at_fn gf; refine hc.mono ?_; rintro e w2 ⟨rfl, hg2⟩)
          | go_in)
        have hrg2 := hrgA.kept hg2 (by simp) (by simp)
        go_roundw
        case rel => exact ⟨_, cnt1, by rw [← Fk_stays hap (kyKeyed.key hkey) hlx hp hat]; exact hrg2, hgwA.andThen hg2 (fun j hj => by cases hj)⟩
        case measure => rw [hrg2.left_eq, hrg.left_eq]; exact hlt
      · unfold kyV
        go_wp2_with (first
          | (go_at_fn gf; refine hc.mono ?_; rintro e w2 ⟨rfl, hg2⟩; have hrg2 := hrgA.kept hg2 (by simp) (by simp); have k0 := (hg2.cell b0 (by simp)); have k1 := (hg2.cell b1 (by simp)); have k2 := (hg2.cell b2 (by simp)))
          | (at_delete; refine wpList_delete_ranges _ rfl _ _ 57 45 rfl 3 kyKeyed Try.underlying57 tokI g w.heap.size n _ _ _ rfl hrg2 _ _ rfl hkey' ?_; intro w3 cnt3 hrg3 hle hturn; go_frame)
          | go_in)
        rw [strike_twice] at hrg3
        go_roundw
        case rel => exact ⟨_, cnt3, by rw [← Fk_struck hap (kyKeyed.key hkey) hlx hp hat]; exact hrg3, (hgwA.andThen hg2 (fun j hj => by cases hj)).andThen hturn.grown (fun j hj => by cases hj; exact Or.inr rfl)⟩
        case measure => rw [hrg3.left_eq, hrg.left_eq]; omega
end Go.Proofs.Ytlkhfgkgngcakaa
