/- The names of a disk's files, rising. No condition. -/
import Derived.Test.YtpdimmkacjilgaaDkCut
import Derived.Test.YtpdimmkacjilgaaIter
namespace Go.Proofs.Ytpdimmkacjilgaa
open Go.RowKit Go.Maps Go.ChangeMaps Go.WideMaps Go.Sort Go.Shelf
set_option linter.unusedVariables false
/-- What names hands back. -/
def NamesOf (W : World) (F : List DF) (e : Ending) (w' : World) : Prop := ∃ (v : Value) (ss : List (List UInt8)), e = .returned v ∧ ss.Perm (F.map (·.name)) ∧ w'.ownsRow W.heap.size 9 1 v ss.length ((ss.mergeSort (fun x y => decide (x ≤ y))).map encStr) ∧ (v = .slice none 0 0 ↔ ss = []) ∧ Below W.heap.size W w'
theorem strKeys_mapD (F : List DF) : strKeys (mapD F) = F.map (·.name) := by
  unfold mapD
  show (F.map entry).map (fun p => strOf p.1) = _
  rw [List.map_map]
  rfl
set_option maxHeartbeats 2000000 in
set_option maxRecDepth 100000 in
theorem names_some (p : Nat) (d : DS) (W : World) (h : Rep W p d) (hlen : d.F.length ≤ 1000000) (m : Nat) (hm : d.map = some m) :
    Calls Try.prog 46 #[dp p] W (NamesOf W d.F) := by
  obtain ⟨y0, y1, y2, y3, y4⟩ := h.at
  obtain ⟨m', hm', hown⟩ : ∃ m, d.map = some m ∧ W.ownsMap Try.prog 9 fileTok m d.F.length (mapD d.F) := by
    rcases h.map with ⟨h1, _⟩ | hx
    · rw [h1] at hm; cases hm
    · exact hx
  have e : m' = m := by rw [hm'] at hm; injection hm
  subst e
  have hsz : Maps.size (mapD d.F) = d.F.length := by unfold mapD Maps.size; simp
  have hmax : Maps.size (mapD d.F) ≤ maxLen := by rw [hsz]; unfold maxLen; omega
  have hby : Maps.size (mapD d.F) * 16 ≤ 140737488355328 := by rw [hsz]; omega
  rw [hm'] at y2
  unfold dp
  have R0 := Lib.hid h
  clear h hm hm'
  refine (callsIn_wide (n := 6)).1 ?_
  have hfK : Fence.wide.fn 54 := trivial
  have hfS : Fence.wide.fn 53 := trivial
  refine callsIn_of_wp Try.func46 rfl trivial ?_ rfl
  simp only [Try.ntmps46, List.size_toArray, List.length_cons, List.length_nil, Nat.reduceAdd, Nat.reduceSub, Array.replicate_succ, Array.replicate_zero, List.push_toArray, List.append_toArray, List.nil_append, List.cons_append]
  gi_wp2_with (first
    | (gi_at_call 54; refine (Try.maps_Keys_54 _ _).mono ?_; rintro e w' ⟨rfl, rfl⟩)
    | (gi_at_call 53; refine (Try.slices_Sorted_keys_53_54 m' d.F.length (mapD d.F) fileTok W hown hmax hby).mono ?_; rintro e w' ⟨v, ss, rfl, hS, hrow, hnil, hb⟩))
  go_ret
  rw [strKeys_mapD] at hS
  exact ⟨v, ss, rfl, hS, own_base hrow (by simp), hnil, ((Below.refl _ W).alloc (Nat.le_refl _) _).trans (hb.mono (by simp))⟩
end Go.Proofs.Ytpdimmkacjilgaa
