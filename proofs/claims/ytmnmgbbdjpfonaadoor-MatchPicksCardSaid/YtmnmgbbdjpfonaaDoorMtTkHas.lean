/- token.Has by one contract. Condition: the texts' lengths. -/
import Derived.Test.YtmnmgbbdjpfonaaDoorMtTkWords
namespace Go.Proofs.YtmnmgbbdjpfonaaDoor
open Go.RowKit Go.Shelf Go.Lib
set_option linter.unusedVariables false
attribute [local go_sem] Oper.semAt_some
def hasB (L w : List UInt8) : Bool := decide (TK.foldL w ∈ TK.words L)
def HAt (L F : List UInt8) (w : World) (B5 : Nat) (pre : List (Px L)) (W : World) : Prop :=
  ((∀ y ∈ vals pre, y ≠ F) ∧ Boxed W w.heap.size 4 (.bool false) ∧ Boxed W B5 9 (.string (bs F))) ∧ Below w.heap.size w W
def HxAt (L F : List UInt8) (w : World) (c : Code) (pre : List (Px L)) (W : World) : Prop :=
  (c = .ret ∧ F ∈ vals pre ∧ Boxed W w.heap.size 4 (.bool true)) ∧ Below w.heap.size w W
theorem boxed_kept {W W' : World} {row : Option Nat} {B : Nat} {t : TypeId} {v : Value} (h : Boxed W B t v) (hg : W.grownBy W' row) (hr : ∀ r, row = some r → ∃ o : Obj, W.heap[r]? = some o ∧ o.isCells = false) : Boxed W' B t v :=
  h.kept hg (fun e => by
    obtain ⟨o, ho, hc⟩ := hr B e.symm
    rw [show W.heap[B]? = _ from h] at ho
    cases ho
    cases hc)
set_option maxHeartbeats 4000000 in
set_option maxRecDepth 100000 in
theorem has_in (L wd : List UInt8) (hl : L.length ≤ 140737488351232) (hw : wd.length ≤ 140737488351232) (w : World) (hT : Tabs w) :
    CallsIn Fence.wide 9 Tryd.prog 34 #[.string (bs L), .string (bs wd)] w fun e W' => e = .returned (.bool (hasB L wd)) ∧ Below w.heap.size w W' := by
  have h2 : 2 ≤ w.heap.size := by have h1 := tab_lt (hT.2 0 (by omega)).1; simp only at h1; omega
  have hfl : (TK.foldL L).length ≤ 140737488351232 := by rw [TK.foldL_length]; exact hl
  refine callsIn_of_wp_marks Tryd.func34 rfl trivial ?_ rfl
  simp only [Tryd.ntmps34, List.size_toArray, List.length_cons, List.length_nil, Nat.reduceAdd, Nat.reduceSub, Array.replicate_succ, Array.replicate_zero, List.push_toArray, List.append_toArray, List.nil_append, List.cons_append]
  gi_wp2_with fail
  refine ⟨trivial, (callsIn_wide.2 (fold_c wd _ hw)).mono ?_⟩
  rintro e w1 ⟨rfl, hb1⟩
  have hR1 : Boxed w1 w.heap.size 4 (.bool false) := (hb1.block _ (by simp)).trans (Boxed.new w _ _)
  have hB1 : Below w.heap.size w w1 := ((Below.refl _ w).alloc (Nat.le_refl _) _).trans (hb1.mono (by simp))
  have hs1 : w.heap.size + 1 ≤ w1.heap.size := by have := hb1.size; simpa using this
  clear hb1
  gi_wp2_with fail
  refine ⟨trivial, (callsIn_wide.2 (fold_c L _ hl)).mono ?_⟩
  rintro e w2 ⟨rfl, hb2⟩
  have hR2 : Boxed w2 w.heap.size 4 (.bool false) := (hb2.block _ (by simp; omega)).trans (hR1.alloc _)
  have hF2 : Boxed w2 w1.heap.size 9 (.string (bs (TK.foldL wd))) := (hb2.block _ (by simp)).trans (Boxed.new w1 _ _)
  have hB2 : Below w.heap.size w w2 := (hB1.alloc hB1.size _).trans (hb2.mono (by simp; omega))
  have hs2 : w1.heap.size + 1 ≤ w2.heap.size := by have := hb2.size; simpa using this
  clear hb2
  gi_wp2_with fail
  refine ⟨trivial, (callsIn_wide.2 (pieces_c _ _)).mono ?_⟩
  rintro e w3 ⟨rfl, rfl⟩
  gi_wp2_with fail
  obtain ⟨W0, hW0⟩ : ∃ W0, w2.alloc (.cells #[.string (bs (TK.foldL L))] 9) = W0 := ⟨_, rfl⟩
  have hs0 : W0.heap.size = w2.heap.size + 1 := by rw [← hW0]; simp
  have hR0 : Boxed W0 w.heap.size 4 (.bool false) := by rw [← hW0]; exact hR2.alloc _
  have hF0 : Boxed W0 w1.heap.size 9 (.string (bs (TK.foldL wd))) := by rw [← hW0]; exact hF2.alloc _
  have hS0 : Boxed W0 w2.heap.size 9 (.string (bs (TK.foldL L))) := by rw [← hW0]; exact Boxed.new w2 _ _
  have hBW : Below w.heap.size w W0 := by rw [← hW0]; exact hB2.alloc hB2.size _
  try rw [hW0]
  clear hW0 hR1 hR2 hF2
  refine wpIn_rangeFunc_ownF rfl (by omega) (gf := 52) (lb := #[.pointer (some ⟨w2.heap.size, 0, none⟩)]) rfl trivial (enters_of Tryd.func52 (by kernel_rfl) rfl)
    (pieces_stops (TK.foldL L) hfl 8 (by omega) w2.heap.size w.heap.size W0 hS0.cell (hT.below hBW) h2) KpT.trans (fun W l o o' h1 h2 h3 h4 => KpT.put (B := W0.heap.size) (by omega) (by omega) W l o o' h1 h2 h3 h4) (Below.refl _ _) (fun _ => rfl)
    (HAt (TK.foldL L) (TK.foldL wd) w w1.heap.size) (HxAt (TK.foldL L) (TK.foldL wd) w)
    (OwnFrom.and (Own.from (fun s A B row hs hg hr => ⟨hs.1, boxed_kept hs.2.1 hg hr, boxed_kept hs.2.2 hg hr⟩) _) (ownFrom_below (Nat.le_refl _) (by omega)))
    (fun c => OwnFrom.and (Own.from (fun s A B row hs hg hr => ⟨hs.1, hs.2.1, boxed_kept hs.2.2 hg hr⟩) _) (ownFrom_below (Nat.le_refl _) (by omega)))
    ⟨⟨by simp [vals], hR0, hF0⟩, hBW⟩
    (fun x : Px (TK.foldL L) => { tmps := #[.string (bs L), .string (bs wd), undef, undef, .pointer (some ⟨w.heap.size, 0, none⟩), .pointer (some ⟨w1.heap.size, 0, none⟩), .string (bs x.1), .string (bs wd), .string (bs (TK.foldL wd)), .string (bs L), .string (bs (TK.foldL L)), .func (.func 52) #[] #[.pointer (some ⟨w2.heap.size, 0, none⟩)], .string (bs x.1), undef, undef, undef], defers := [] }) ?assign ?body ?done ?stop
  case assign =>
    intro l x W K hK
    gi_wp2
    exact hK
  case body =>
    rintro l pre ⟨x, hx⟩ W ⟨⟨hp, hR, hF⟩, hB⟩ hlen
    have hrc := hR.cell
    have hrf := hR.frozen
    have hfc := hF.cell
    by_cases hxF : x = TK.foldL wd
    · subst hxF
      gi_wp2
      exact ⟨KeepsOthers.setCell _ _ _, ⟨rfl, by rw [vals_snoc]; simp, hR.set _⟩, hB.setCell (p := ⟨w.heap.size, 0, none⟩) (Nat.le_refl _) _⟩
    · have hne : ((bs x).toList == (bs (TK.foldL wd)).toList) = false := str_ne (fun e => hxF (by have := congrArg (fun b : ByteArray => b.data.toList) e; simpa [bs_list] using this))
      gi_wp2
      exact ⟨KeepsOthers.refl _, ⟨Below.refl _ _, (KeepsOthers.refl _).walks, rfl⟩, ⟨fun y hy => by rw [vals_snoc, List.mem_append] at hy; rcases hy with hy | hy; exact hp y hy; simp at hy; subst hy; exact hxF, hR, hF⟩, hB⟩
  case done =>
    rintro D ys W hD hS ⟨⟨hp, hR, hF⟩, hB⟩ hK
    have hrc := hR.cell
    have hrf := hR.frozen
    gi_wp2
    have hK' := (KeepsOthers.setCell W ⟨w.heap.size, 0, none⟩ (.bool false)).same D _ hK rfl
    refine ⟨by simp, .inl ⟨_, _, rfl, run_takeDeferred hK', ?_⟩⟩
    have hc5 := cell_kept (hR.set (.bool false)).cell (grownBy_putObj' _ D (.deferred none)) (fun r e => by cases e; exact ⟨_, hK', rfl⟩)
    have hv : hasB L wd = false := by
      unfold hasB
      rw [decide_eq_false_iff_not, ← TK.rawp_fold, ← show vals ys = TK.rawp (TK.foldL L) from hS]
      exact fun h => hp _ h rfl
    refine ⟨.bool false, ?_, by rw [hv], (hB.setCell (p := ⟨w.heap.size, 0, none⟩) (Nat.le_refl _) _).trans (belowK_b (w := w) (Nat.le_refl _) _ D _ _ (by omega) hK' rfl rfl)⟩
    simp [results, Tryd.f34, go_sem, hc5]
  case stop =>
    rintro D c pre W hD hS ⟨⟨rfl, hin, hR⟩, hB⟩ hK
    gi_wp2
    refine ⟨by simp, .inl ⟨_, _, rfl, run_takeDeferred hK, ?_⟩⟩
    have hc5 := cell_kept hR.cell (grownBy_putObj' _ D (.deferred none)) (fun r e => by cases e; exact ⟨_, hK, rfl⟩)
    have hv : hasB L wd = true := by
      unfold hasB
      rw [decide_eq_true_eq, ← TK.rawp_fold]
      exact (show vals pre <+: TK.rawp (TK.foldL L) from hS).subset hin
    refine ⟨.bool true, ?_, by rw [hv], hB.trans (belowK_b (w := w) (Nat.le_refl _) W D _ _ (by omega) hK rfl rfl)⟩
    simp [results, Tryd.f34, go_sem, hc5]
end Go.Proofs.YtmnmgbbdjpfonaaDoor
