/- Merged texts. What each proves is told at its head. -/
import Derived.Test.YtjnphajkoopkgaaGreatDoorBatNum
/- The document's who: whether a producer's numbers may be. No condition. -/
namespace Go.Proofs.YtjnphajkoopkgaaGreatDoor
open Go.RowKit
set_option linter.unusedVariables false
def whoB (b : BN) : Bool := noneB b || someB b
theorem whoB_none (base span epoch seq : Int) : whoB ⟨base, span, -1, epoch, seq⟩ = (decide (epoch = -1) && decide (seq = -1)) := by
  unfold whoB noneB someB wi
  simp
theorem whoB_some (base span prod epoch seq : Int) (h : prod ≠ -1) : whoB ⟨base, span, prod, epoch, seq⟩ = (decide (0 ≤ prod) && decide (prod ≤ 1073741824) && decide (0 ≤ epoch) && decide (epoch ≤ 32768) && decide (0 ≤ seq) && decide (seq ≤ 1073741824)) := by
  unfold whoB noneB someB wi
  simp [h, Bool.and_assoc]
set_option maxHeartbeats 8000000 in
set_option maxRecDepth 100000 in
theorem who_c (b : BN) (v : Value) (W : World) : Calls Tryz.prog 126 #[.agg (bnC b v)] W (fun e w' => e = .returned (.bool (whoB b)) ∧ Below W.heap.size W w') := by
  obtain ⟨base, span, prod, epoch, seq⟩ := b
  have hb0 : Below W.heap.size W (W.alloc (.cells #[.int .i64 base, .int .i64 span, .int .i64 prod, .int .i64 epoch, .int .i64 seq, v] 44)) := (Below.refl _ W).alloc (Nat.le_refl _) _
  have hbx := Box.new W 44 #[.int .i64 base, .int .i64 span, .int .i64 prod, .int .i64 epoch, .int .i64 seq, v]
  have y2 := (hbx.cell 2).trans rfl
  have y3 := (hbx.cell 3).trans rfl
  have y4 := (hbx.cell 4).trans rfl
  simp only [List.getElem?_toArray, List.getElem?_cons_zero, List.getElem?_cons_succ] at y2 y3 y4
  have HB := Lib.hid hb0
  clear hbx hb0
  unfold bnC
  simp only
  obtain ⟨res, hres⟩ : ∃ res, whoB ⟨base, span, prod, epoch, seq⟩ = res := ⟨_, rfl⟩
  rw [hres]
  by_cases hp : prod = -1
  · subst hp
    rw [whoB_none] at hres
    by_cases he : epoch = -1
    · subst he
      go_enter Tryz.func126, Tryz.ntmps126
      go_wp2
      go_ret
      refine ⟨?_, HB.out⟩
      rw [← hres]
      rfl
    · have he' : (epoch == -1) = false := by rw [beq_eq_false_iff_ne]; exact he
      go_enter Tryz.func126, Tryz.ntmps126
      go_wp2
      go_ret
      refine ⟨?_, HB.out⟩
      rw [← hres]
      simp [he]
  · have hp' : (prod == -1) = false := by rw [beq_eq_false_iff_ne]; exact hp
    rw [whoB_some _ _ _ _ _ hp] at hres
    by_cases h1 : 0 ≤ prod
    · by_cases h2 : prod ≤ 1073741824
      · by_cases h3 : 0 ≤ epoch
        · by_cases h4 : epoch ≤ 32768
          · by_cases h5 : 0 ≤ seq
            · go_enter Tryz.func126, Tryz.ntmps126
              go_wp2
              go_ret
              refine ⟨?_, HB.out⟩
              rw [← hres]
              simp
              try omega
            · go_enter Tryz.func126, Tryz.ntmps126
              go_wp2
              go_ret
              refine ⟨?_, HB.out⟩
              rw [← hres]
              simp
              try omega
          · go_enter Tryz.func126, Tryz.ntmps126
            go_wp2
            go_ret
            refine ⟨?_, HB.out⟩
            rw [← hres]
            simp
            try omega
        · go_enter Tryz.func126, Tryz.ntmps126
          go_wp2
          go_ret
          refine ⟨?_, HB.out⟩
          rw [← hres]
          simp
          try omega
      · go_enter Tryz.func126, Tryz.ntmps126
        go_wp2
        go_ret
        refine ⟨?_, HB.out⟩
        rw [← hres]
        simp
        try omega
    · go_enter Tryz.func126, Tryz.ntmps126
      go_wp2
      go_ret
      refine ⟨?_, HB.out⟩
      rw [← hres]
      simp
      try omega
end Go.Proofs.YtjnphajkoopkgaaGreatDoor
