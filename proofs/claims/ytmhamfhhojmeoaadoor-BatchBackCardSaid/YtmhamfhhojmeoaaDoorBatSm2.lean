/- The document's Same of two batches, at two readings of one: true; and Small. -/
import Derived.Test.YtmhamfhhojmeoaaDoorBatSm
import Derived.Test.YtmhamfhhojmeoaaDoorBatCpAll
namespace Go.Proofs.YtmhamfhhojmeoaaDoor
open Go.RowKit
set_option linter.unusedVariables false
set_option maxHeartbeats 8000000 in
set_option maxRecDepth 100000 in
theorem rsame5_c (b : BN) (L M : List RX) (A B : Option Addr) (c d : Nat) (W : World) (hA : RsIn W A L) (hB : RsIn W B M) (he : L.map (·.1) = M.map (·.1)) (h50 : L.length ≤ 1000) (hh : ∀ x ∈ L, x.1.heads.length ≤ 1000) :
    Calls Tryd.prog 16 #[.agg (bnC b (.slice A L.length c)), .agg (bnC b (.slice B M.length d))] W (Good W (.bool true)) := by
  obtain ⟨base, span, prod, epoch, seq⟩ := b
  unfold bnC
  simp only
  obtain ⟨W2, hW2⟩ : ∃ w, (W.alloc (.cells #[.int .i64 base, .int .i64 span, .int .i64 prod, .int .i64 epoch, .int .i64 seq, .slice A L.length c] 24)).alloc (.cells #[.int .i64 base, .int .i64 span, .int .i64 prod, .int .i64 epoch, .int .i64 seq, .slice B M.length d] 24) = w := ⟨_, rfl⟩
  have hb : Below W.heap.size W W2 := by
    rw [← hW2]
    exact ((Below.refl _ W).alloc (Nat.le_refl _) _).alloc (by simp) _
  have hx : Box W2 W.heap.size 24 #[.int .i64 base, .int .i64 span, .int .i64 prod, .int .i64 epoch, .int .i64 seq, .slice A L.length c] := by
    rw [← hW2]
    exact (Box.new W _ _).alloc _
  have hy : Box W2 (W.heap.size + 1) 24 #[.int .i64 base, .int .i64 span, .int .i64 prod, .int .i64 epoch, .int .i64 seq, .slice B M.length d] := by
    rw [← hW2]
    have := Box.new (W.alloc (.cells #[.int .i64 base, .int .i64 span, .int .i64 prod, .int .i64 epoch, .int .i64 seq, .slice A L.length c] 24)) 24 #[.int .i64 base, .int .i64 span, .int .i64 prod, .int .i64 epoch, .int .i64 seq, .slice B M.length d]
    rw [World.size_alloc] at this
    exact this
  have cs := rsameAll_c L M A B c d W2 (hA.below hb) (hB.below hb) he h50 hh
  obtain ⟨y0, y1, y2, y3, y4, y5, _, _, _, _, _, _⟩ := box_six hx
  obtain ⟨z0, z1, z2, z3, z4, z5, _, _, _, _, _, _⟩ := box_six hy
  have HB := Lib.hid hb
  clear hb hx hy hA hB he hh
  go_enter Tryd.func16, Tryd.ntmps16
  go_wp2_with fail
  (with_reducible refine cs.mono ?_)
  rintro en w2 ⟨rfl, hb2⟩
  have H2 := Lib.hid (HB.out.trans (hb2.mono HB.out.size))
  clear hb2 cs
  go_wp2
  go_ret
  exact ⟨rfl, H2.out⟩
end Go.Proofs.YtmhamfhhojmeoaaDoor
