/- clean: nothing is done to a log that isn't there. No condition. -/
import Derived.Test.YtdclkhbolmbnmaaGreatDoorClLv
import Derived.Test.YtdclkhbolmbnmaaGreatDoorClBs
namespace Go.Proofs.YtdclkhbolmbnmaaGreatDoor
open Go.RowKit
set_option linter.unusedVariables false
set_option maxHeartbeats 8000000 in
set_option maxRecDepth 100000 in
theorem stepnil_c (W : World) : Calls Tryz.prog 5 #[.pointer none] W (Good W (.tuple #[.bool false, .int .i64 1])) := by
  go_enter Tryz.func5, Tryz.ntmps5
  go_wp2_with fail
  go_quiet (fail)
  go_wp2_with fail
  go_ret2
  exact ⟨rfl, ⟨rfl, rfl, rfl, Nat.le_refl _, fun _ _ => rfl⟩⟩
set_option maxHeartbeats 8000000 in
set_option maxRecDepth 100000 in
theorem cleanNil_walk (n : Int) (W : World) {p : Prop} (hn : p) (tab : True) : Calls Tryz.prog 3 #[.int .i64 n] W (Good W (.bool true)) := by
  have c1 := newnil_c n W
  clear hn
  go_enter Tryz.func3, Tryz.ntmps3
  go_wp2_with fail
  (with_reducible refine c1.mono ?_)
  rintro e w1 ⟨rfl, hb1⟩
  have c2 := stepnil_c w1
  clear c1
  go_wp2_with fail
  (with_reducible refine c2.mono ?_)
  rintro e w2 ⟨rfl, hb2⟩
  have c3 := live_c w2
  have hb := hb1.trans (hb2.mono hb1.size)
  have HB := Lib.hid hb
  clear c2 hb1 hb2 hb
  go_wp2_with fail
  (with_reducible refine c3.mono ?_)
  rintro e w3 ⟨rfl, hb3⟩
  have HB3 := Lib.hid (HB.out.trans (hb3.mono HB.out.size))
  clear c3 hb3
  go_wp2_with fail
  go_ret
  exact ⟨rfl, HB3.out⟩
end Go.Proofs.YtdclkhbolmbnmaaGreatDoor
