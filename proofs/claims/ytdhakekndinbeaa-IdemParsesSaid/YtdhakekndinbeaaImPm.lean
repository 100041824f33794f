/- idem: Print of one that is none, and of Producers; the law of a string's bytes. No condition but that they are not too many. -/
import Derived.Test.YtdhakekndinbeaaImPq
import Derived.Test.YtdhakekndinbeaaImEn
namespace Go.Proofs.Ytdhakekndinbeaa
open Go.RowKit Go.Maps Go.ChangeMaps Go.WideMaps Go.Sort Go.Shelf
set_option linter.unusedVariables false
theorem print_c (p : Nat) (m : Option Nat) (F : List HE) (W : World) (h : PdIs W p m F) (hlen : F.length ≤ 1000000) (hG : GOk (absF F)) :
    Calls Try.prog 17 #[dp p] W (Good W (.string ⟨(printL (absF F)).toArray⟩)) := print_in (dp p) p m F W h hlen hG (.inl rfl)
theorem sorted_nil (w : World) : Calls Try.prog 36 #[.func (.func 49) #[] #[.pointer (some ⟨w.heap.size, 0, none⟩)]] (w.alloc (.cells #[.map none] 56)) (SortedIs (w.alloc (.cells #[.map none] 56)) []) := by
  refine ((callsIn_wide (n := 5)).1 (Try.slices_Sorted_keys_nil_36_37 w)).mono ?_
  rintro e w' ⟨v, ss, rfl, rfl, hrow, _, hb⟩
  exact ⟨v, rfl, by simpa [idsV] using hrow, hb⟩
theorem len_nil (w : World) (ty : TypeId) : (Builtin.len_ #[56] ty #[.map none]).run Try.prog w = .ok (.int .i64 0) w := by
  have u := run_underlying (P := Try.prog) Try.underlying56
  simp [Builtin.len_, go_sem, u]
set_option maxHeartbeats 16000000 in
set_option maxRecDepth 100000 in
theorem print_nil (W : World) : Calls Try.prog 17 #[.pointer none] W (Good W (.string ⟨(printL []).toArray⟩)) := by
  have hB0 : Below W.heap.size W (W.alloc (.cells #[.pointer none, .slice none 0 0] 83)) := (Below.refl _ _).alloc (Nat.le_refl _) _
  have l0 := len_nil (W.alloc (.cells #[.pointer none, .slice none 0 0] 83))
  have H0 : PnI W W.heap.size (.slice none 0 0) [] [] (W.alloc (.cells #[.pointer none, .slice none 0 0] 83)) := ⟨Bld.fresh W, World.ownsRow_nil _ _ _ _, hB0⟩
  have c1 := H0.put [0] 1 rfl (by decide) (fun n hn => (show n = ((0 : Nat) : Int) by simpa using hn) ▸ i64N _ (by omega)) (by simp) ((W.alloc (.cells #[.pointer none, .slice none 0 0] 83)).alloc (.cells #[.int .i64 0] 3)) (W.heap.size + 1) ((Below.refl _ _).alloc (Nat.le_refl _) _) (by
    have := numC_new (W.alloc (.cells #[.pointer none, .slice none 0 0] 83)) [0]
    rwa [World.size_alloc] at this)
  have ck := fun w => (callsIn_wide (n := 5)).1 (Try.maps_Keys_37 none w)
  have cs := fun w => sorted_nil w
  have e0 : ([] : List UInt8) ++ putsL [0] = printL [] := rfl
  rw [e0] at c1
  generalize printL [] = T at *
  clear e0 H0 hB0
  go_enter Try.func17, Try.ntmps17
  go_wp2_with fail
  with_reducible refine c1.mono ?_
  rintro en w1 ⟨rfl, h1⟩
  have H1 := Lib.hid h1
  clear h1 l0
  go_wp2_with fail
  with_reducible refine (ck _).mono ?_
  rintro en w2 ⟨rfl, hw2⟩
  have hw2' := hw2.symm
  subst hw2'
  clear hw2
  go_wp2_with fail
  with_reducible refine (cs _).mono ?_
  rintro en w3 ⟨v, rfl, hrow, hb3⟩
  have H3 : Hid (PnI W W.heap.size (.slice none 0 0) [] T w3) := Lib.hid (by
    have hb := ((Below.refl w1.heap.size w1).alloc (Nat.le_refl _) (.cells #[.map none] 56)).trans (hb3.mono (by simp))
    exact H1.out.later hb)
  obtain ⟨A, c, rfl⟩ := own_slc hrow
  clear hrow hb3 H1 c1 ck cs
  go_wp2_with fail
  go_loopw [27] (fun i wr => i = .int .i64 0 ∧ PnI W W.heap.size (.slice none 0 0) [] T wr) (fun i _ => 0)
  case atStart => exact ⟨rfl, H3.out⟩
  case round =>
    obtain ⟨rfl, hI⟩ := hrel
    have HI := Lib.hid hI
    clear H3 hI
    have hs := Try.Builder_String_any W.heap.size W.heap.size T wr HI.out.bld HI.out.bel.size
    go_wp2_with fail
    with_reducible refine hs.mono ?_
    rintro en w4 ⟨rfl, hb4⟩
    have H4 := Lib.hid (HI.out.bel.trans hb4)
    clear hb4
    go_wp2_with fail
    go_ret
    exact ⟨rfl, H4.out⟩
end Go.Proofs.Ytdhakekndinbeaa
