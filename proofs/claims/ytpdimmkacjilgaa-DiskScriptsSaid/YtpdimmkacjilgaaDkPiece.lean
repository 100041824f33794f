/- A piece of a file's bytes in memory of its own; a file made shorter. No condition. -/
import Derived.Test.YtpdimmkacjilgaaDkRead
import Derived.Maps.AppendAt
import Derived.Laws.AppendOwnNone
namespace Go.Proofs.Ytpdimmkacjilgaa
open Go.RowKit Go.Maps Go.ChangeMaps Go.WideMaps
set_option linter.unusedVariables false
/-- What a piece is. -/
def Piece (W : World) (l : List UInt8) (e : Ending) (w' : World) : Prop :=
  ∃ v, e = .returned v ∧ w'.ownsRow W.heap.size 5 1 v l.length (byteCells l) ∧ Below W.heap.size W w'
theorem piece_c (W : World) (v : Value) (l : List UInt8) (k : Nat) (h : W.ownsRow 0 5 1 v l.length (byteCells l)) (hk : k ≤ l.length) (hl : l.length ≤ 4194304) :
    Calls Try.prog 40 #[v, .int .i64 (k : Int)] W (Piece W (l.take k)) := by
  obtain ⟨i0, hi, hz⟩ := Option.map_eq_some_iff.1 info5
  simp only [Prod.mk.injEq] at hz
  obtain ⟨hz0, hz1, hz2⟩ := hz
  have hlen : (l.take k).length = k := by simp; omega
  rcases h.2 with ⟨rfl, hn⟩ | ⟨g, cap, cur, rfl, hb, hg, hnc, hcm, hcs, ht⟩
  · have hl0 : l = [] := List.length_eq_zero_iff.1 hn
    subst hl0
    have hk0 : k = 0 := by simpa using hk
    subst hk0
    go_enter Try.func40, Try.ntmps40
    go_wp2
    go_ret
    exact ⟨_, rfl, World.ownsRow_nil _ _ _ _, Below.refl _ _⟩
  · have hki : (0 : Int) ≤ (k : Int) := by omega
    have hkc : (k : Int) ≤ (cap : Int) := by omega
    have hnews : ∀ j u, (byteCells (l.take k))[j]? = some u → W.cell? ((⟨g, 0, none⟩ : Addr).add j) = some u := by
      intro j u hu
      have hc := h.cells (g := g) rfl
      refine hc j u ?_
      unfold byteCells at hu ⊢
      rw [List.getElem?_map, List.getElem?_take] at hu
      split at hu
      · rw [List.getElem?_map]; exact hu
      · cases hu
    have h1 : ∀ u ∈ byteCells (l.take k), u.oneCell' = true := by
      intro u hu
      unfold byteCells at hu
      obtain ⟨b, _, rfl⟩ := List.mem_map.1 hu
      rfl
    have hbl : (byteCells (l.take k)).length = k * 1 := by unfold byteCells; rw [List.length_map, hlen, Nat.mul_one]
    have hk4 : k ≤ 4194304 := by omega
    clear h ht hg
    go_enter Try.func40, Try.ntmps40
    go_wp2_with (at_builtin; refine wpList_append_own_at _ rfl _ _ 67 rfl W.heap.size 5 i0 (.int .u8 0) 1 1 Try.underlying67 hi hz0 hz1 hz2 rfl (by decide) (.slice none 0 0) 0 [] rfl (World.ownsRow_nil _ _ _ _) ⟨g, 0, none⟩ k cap (byteCells (l.take k)) rfl hbl hnews h1 (by unfold maxLen; omega) (by omega) (Nat.le_refl _) ?_)
    intro v' w' hown hgrow hnil hlies
    go_wp2
    go_ret
    refine ⟨_, rfl, ?_, ⟨hgrow.os, hgrow.tape, hgrow.output, hgrow.size, fun i hi => hgrow.block i hi (by intro e; cases e)⟩⟩
    rw [hlen]
    have e : 0 + k = k := Nat.zero_add k
    simpa using hown
end Go.Proofs.Ytpdimmkacjilgaa
