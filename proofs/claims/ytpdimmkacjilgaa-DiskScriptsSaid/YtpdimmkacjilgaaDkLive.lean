/- The law's live: some answers that the document gives. No condition. -/
import Derived.Test.YtpdimmkacjilgaaDkAt
namespace Go.Proofs.Ytpdimmkacjilgaa
open Go.RowKit Go.Maps Go.ChangeMaps Go.WideMaps Go.Shelf
set_option linter.unusedVariables false
def lv0 : Ab := ⟨100, false, 0, []⟩
def lv1 : Ab := ⟨100, false, 0, [([97], [97, 98, 99, 100], 0)]⟩
def lv2 : Ab := ⟨100, false, 0, [([97], [97, 98, 99, 100], 4)]⟩
def lv3 : Ab := ⟨100, false, 0, [([97], [97, 98, 99, 100, 101, 102], 4)]⟩
def lv4 : Ab := ⟨100, false, 0, [([97], [97, 98, 99, 100, 101], 5)]⟩
theorem lv_app1 : appA lv0 ⟨#[97]⟩ ⟨#[97, 98, 99, 100]⟩ = lv1 := rfl
theorem lv_appe1 : appE lv0 ⟨#[97]⟩ ⟨#[97, 98, 99, 100]⟩ = 0 := rfl
theorem lv_sync : syncA lv1 (⟨#[97]⟩ : ByteArray).data.toList = lv2 := rfl
theorem lv_synce : seeE lv1 (⟨#[97]⟩ : ByteArray).data.toList = 0 := rfl
theorem lv_app2 : appA lv2 ⟨#[97]⟩ ⟨#[101, 102]⟩ = lv3 := rfl
theorem lv_appe2 : appE lv2 ⟨#[97]⟩ ⟨#[101, 102]⟩ = 0 := rfl
theorem lv_crash : crashA lv3 [1] = lv4 := rfl
theorem lv_crashn : (tearL [1] 0 lv3.L).2 = 1 := rfl
theorem lv_read : readV lv4 (⟨#[97]⟩ : ByteArray).data.toList = [97, 98, 99, 100, 101] := rfl
theorem lv_reade : seeE lv4 (⟨#[97]⟩ : ByteArray).data.toList = 0 := rfl
theorem lv_used : totL lv4.L = 5 := rfl
theorem lv_drop : seeE lv4 (⟨#[98]⟩ : ByteArray).data.toList = 6 := rfl
set_option maxHeartbeats 2000000 in
set_option maxRecDepth 100000 in
theorem live_c (W : World) : Calls Try.prog 10 #[] W (Good W (.bool true)) := by
  have c0 := at_new (W := W) (w := W) 100 (by omega) (Below.refl _ _)
  have cb := new_bad 0 (by omega) (by omega) (by omega)
  unfold dp at *
  go_enter Try.func10, Try.ntmps10
  go_wp2_with fail
  (with_reducible refine c0.mono ?_)
  rintro en w1 ⟨rfl, hA⟩
  have HA := Lib.hid hA
  clear hA c0
  go_wp2_with fail
  (with_reducible refine (cb w1).mono ?_)
  rintro en w1' ⟨rfl, hw⟩
  have hw' := hw.symm
  subst hw'
  clear hw cb
  go_wp2_with fail
  have c1 := at_app (a := lv0) ⟨#[97]⟩ ⟨#[97, 98, 99, 100]⟩ HA.out (by decide) (by decide) (by decide)
  rw [lv_app1, lv_appe1] at c1
  unfold dp at c1
  (with_reducible refine c1.mono ?_)
  rintro en w2 ⟨rfl, hA⟩
  have HA := Lib.hid hA
  clear hA c1
  go_wp2_with fail
  have c1 := at_sync (a := lv1) ⟨#[97]⟩ HA.out (by decide)
  rw [lv_sync, lv_synce] at c1
  unfold dp at c1
  (with_reducible refine c1.mono ?_)
  rintro en w3 ⟨rfl, hA⟩
  have HA := Lib.hid hA
  clear hA c1
  go_wp2_with fail
  have c1 := at_app (a := lv2) ⟨#[97]⟩ ⟨#[101, 102]⟩ HA.out (by decide) (by decide) (by decide)
  rw [lv_app2, lv_appe2] at c1
  unfold dp at c1
  (with_reducible refine c1.mono ?_)
  rintro en w4 ⟨rfl, hA⟩
  have HA := Lib.hid hA
  clear hA c1
  go_wp2_with fail
  have hA4 := HA.out.later ((Below.refl w4.heap.size w4).alloc (Nat.le_refl _) (.cells #[.int .i64 1] 3))
  have c1 := at_crash (a := lv3) (some ⟨w4.heap.size, 0, none⟩) 1 [1] hA4 (HA.out.1.tight.later ((Below.refl w4.heap.size w4).alloc (Nat.le_refl _) (.cells #[.int .i64 1] 3))) (fun k hk => hk.1) (by decide) (by decide) (keep_new w4 3 _ (fun h => Nat.lt_irrefl _ h.2))
  rw [lv_crash, lv_crashn, show ([1] : List Int).length = 1 from rfl] at c1
  unfold dp at c1
  (with_reducible refine c1.mono ?_)
  rintro en w5 ⟨rfl, hA⟩
  have HA := Lib.hid hA
  clear hA c1 hA4
  go_wp2_with fail
  have c1 := read_do _ lv4 _ w5 ⟨#[97]⟩ (by decide) HA.out.1
  rw [lv_read, lv_reade] at c1
  unfold dp at c1
  (with_reducible refine c1.mono ?_)
  rintro en w5' ⟨rfl, hw⟩
  have hw' := hw.symm
  subst hw'
  clear hw c1
  have c1 := used_do _ lv4 _ w5 HA.out.1
  rw [lv_used] at c1
  unfold dp at c1
  have c2 := at_drop (a := lv4) ⟨#[98]⟩ HA.out (by decide)
  rw [lv_drop] at c2
  unfold dp at c2
  go_wp2_with fail
  (with_reducible refine c1.mono ?_)
  rintro en w5' ⟨rfl, hw⟩
  have hw' := hw.symm
  subst hw'
  clear hw c1
  go_wp2_with fail
  (with_reducible refine c2.mono ?_)
  rintro en w6 ⟨rfl, hA⟩
  have HA := Lib.hid hA
  clear hA c2
  go_wp2
  go_ret
  exact ⟨rfl, HA.out.2⟩
end Go.Proofs.Ytpdimmkacjilgaa
