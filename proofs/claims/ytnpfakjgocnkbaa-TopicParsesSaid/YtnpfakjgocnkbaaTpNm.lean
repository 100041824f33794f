/- topic: names, by a contract; rows of names. No condition but that they are not too many. -/
import Derived.Test.YtnpfakjgocnkbaaTpLv
import Derived.Test.YtnpfakjgocnkbaaIter
namespace Go.Proofs.Ytnpfakjgocnkbaa
open Go.RowKit Go.Maps Go.ChangeMaps Go.WideMaps Go.Sort Go.Shelf
set_option linter.unusedVariables false
def nmsV (F : List TE) : List Value := F.map fun e => .string (nmA e)
theorem strKeys_mapT (F : List TE) : strKeys (mapT F) = F.map (·.name) := by
  unfold mapT
  show (F.map entT).map (fun p => strOf p.1) = _
  rw [List.map_map]
  rfl
/-- What names hands back. -/
def NamesAre (W : World) (F : List TE) (en : Ending) (w' : World) : Prop := ∃ v, en = .returned v ∧ w'.ownsRow W.heap.size 9 1 v F.length (nmsV F) ∧ Below W.heap.size W w'
theorem sorted_c {w : World} {p : Nat} {m : Option Nat} {n : Int} {F : List TE} (h : TbIs w p m n F) (hlen : F.length ≤ 1000000) :
    Calls Try.prog 44 #[.func (.func 55) #[] #[.pointer (some ⟨w.heap.size, 0, none⟩)]] (w.alloc (.cells #[.map m] 54)) (NamesAre (w.alloc (.cells #[.map m] 54)) F) := by
  rcases h.map with ⟨rfl, rfl⟩ | ⟨g, rfl, hown⟩
  · refine ((callsIn_wide (n := 5)).1 (Try.slices_Sorted_keys_nil_44_45 w)).mono ?_
    rintro e w' ⟨v, ss, rfl, rfl, hrow, _, hb⟩
    exact ⟨v, rfl, by simpa [nmsV] using hrow, hb⟩
  · refine ((callsIn_wide (n := 5)).1 (Try.slices_Sorted_keys_44_45 g F.length (mapT F) tokT w hown (by rw [mapT_size]; unfold maxLen; omega) (by rw [mapT_size]; omega))).mono ?_
    rintro e w' ⟨v, ss, rfl, hS, hrow, _, hb⟩
    rw [strKeys_mapT] at hS
    rw [sort_names h.rise hS, show ss.length = F.length by rw [hS.length_eq, List.length_map]] at hrow
    refine ⟨v, rfl, ?_, hb⟩
    have e : (F.map (·.name)).map encStr = nmsV F := by rw [List.map_map]; rfl
    rwa [e] at hrow
theorem own_base' {w : World} {base base' e size n : Nat} {v : Value} {xs : List Value} (h : w.ownsRow base e size v n xs) (hb : base' ≤ base) : w.ownsRow base' e size v n xs := by
  refine ⟨h.1, ?_⟩
  rcases h.2 with h0 | ⟨g, cap, cur, rfl, hg, hr⟩
  · exact .inl h0
  · exact .inr ⟨g, cap, cur, rfl, Nat.le_trans hb hg, hr⟩
theorem names_nil (W : World) : Calls Try.prog 29 #[.pointer none] W (NamesAre W []) := by
  go_enter Try.func29, Try.ntmps29
  go_wp2_with fail
  go_ret
  exact ⟨_, rfl, World.ownsRow_nil _ _ _ _, Below.refl _ _⟩
set_option maxHeartbeats 4000000 in
set_option maxRecDepth 100000 in
theorem names_c (p : Nat) (m : Option Nat) (n : Int) (F : List TE) (W : World) (h : TbIs W p m n F) (hlen : F.length ≤ 1000000) : Calls Try.prog 29 #[dp p] W (NamesAre W F) := by
  obtain ⟨y0, y1, hpl⟩ := h.cells
  have ck := fun w => (callsIn_wide (n := 5)).1 (Try.maps_Keys_45 m w)
  have cs := sorted_c h hlen
  unfold dp
  clear h
  go_enter Try.func29, Try.ntmps29
  go_wp2_with fail
  with_reducible refine (ck _).mono ?_
  rintro en w2 ⟨rfl, rfl⟩
  go_wp2_with fail
  with_reducible refine cs.mono ?_
  rintro en w3 ⟨v, rfl, hrow, hb⟩
  have HR := Lib.hid (own_base' hrow (base' := W.heap.size) (by simp))
  have HB := Lib.hid (((Below.refl W.heap.size W).alloc (Nat.le_refl _) (.cells #[.map m] 54)).trans (hb.mono (by simp)))
  clear hrow hb cs ck
  go_wp2_with fail
  go_ret
  exact ⟨v, rfl, HR.out, HB.out⟩
end Go.Proofs.Ytnpfakjgocnkbaa
