/- member: what changes keep; Tick, by a contract. No condition but that numbers are small. -/
import Derived.Test.YtlokhhjhckiloaaMbLv
namespace Go.Proofs.Ytlokhhjhckiloaa
open Go.RowKit
set_option linter.unusedVariables false
theorem below_drewN {B : Nat} {a w : World} (h : Below B a w) (n : Nat) : Below B a (w.drewN n) := ⟨h.os, h.tape, h.output, h.size, h.block⟩
section
variable (ph now : Int) (G : GD)
theorem enterD_L : (enterD ph now G).L = G.L := by unfold enterD; split <;> rfl
theorem enterD_ss : (enterD ph now G).ss = G.ss := by unfold enterD; split <;> rfl
theorem enterD_rb : (enterD ph now G).rb = G.rb := by unfold enterD; split <;> rfl
theorem enterD_gn : (enterD ph now G).gn = G.gn := by unfold enterD; split <;> rfl
theorem enterD_nx : (enterD ph now G).nx = G.nx := by unfold enterD; split <;> rfl
theorem enterD_ph (h : G.L ≠ []) : (enterD ph now G).ph = ph := by unfold enterD; rw [if_neg h]
theorem enterD_ph0 (h : G.L = []) : (enterD ph now G).ph = 0 := by unfold enterD; rw [if_pos h]
end
theorem moreD_L (G : GD) : (moreD G).L = G.L := by unfold moreD; split <;> rfl
theorem moreD_gn (G : GD) : (moreD G).gn = G.gn ∨ (moreD G).gn = G.gn + 1 := by
  unfold moreD
  split
  · exact .inl rfl
  · exact .inr rfl
theorem GBd.enter {G : GD} (h : GBd G) (ph now : Int) : GBd (enterD ph now G) := ⟨by rw [enterD_L]; exact h.len, by rw [enterD_ss]; exact h.ss, by rw [enterD_rb]; exact h.rb⟩
theorem GBd.begin {G : GD} (h : GBd G) (now : Int) : GBd (beginD now G) := by
  unfold beginD
  have h2 : GBd { G with L := G.L.map fun x => { x with j := false, P := [] } } := ⟨by show (G.L.map _).length ≤ 100000; rw [List.length_map]; exact h.len, h.ss, h.rb⟩
  exact h2.enter _ _
theorem GBd.close {G : GD} (h : GBd G) (now : Int) : GBd (closeD now G) := (h.drop _).more.enter _ _
theorem GBd.whole {G : GD} (h : GBd G) (now : Int) : GBd (wholeD now G) := by
  unfold wholeD
  split
  · exact h
  · exact h.close now
theorem GBd.goOn {G : GD} (h : GBd G) (now : Int) : GBd (goOnD now G) := by
  unfold goOnD
  split
  · exact h.whole now
  · exact h.begin now
theorem closeD_gn (now : Int) (G : GD) : (closeD now G).gn = G.gn ∨ (closeD now G).gn = G.gn + 1 := by
  unfold closeD
  rw [enterD_gn]
  exact moreD_gn _
theorem beginD_gn (now : Int) (G : GD) : (beginD now G).gn = G.gn := by unfold beginD; rw [enterD_gn]
theorem wholeD_gn (now : Int) (G : GD) : (wholeD now G).gn = G.gn ∨ (wholeD now G).gn = G.gn + 1 := by
  unfold wholeD
  split
  · exact .inl rfl
  · exact closeD_gn now G
theorem goOnD_gn (now : Int) (G : GD) : (goOnD now G).gn = G.gn ∨ (goOnD now G).gn = G.gn + 1 := by
  unfold goOnD
  split
  · exact wholeD_gn now G
  · exact .inl (beginD_gn now G)
/-- Tick: those that were not heard are gone. -/
def tick1D (now : Int) (G : GD) : GD := if decide ((dropD (fun x => decide (x.u ≤ now)) G).L.length < G.L.length) = true then goOnD now (dropD (fun x => decide (x.u ≤ now)) G) else dropD (fun x => decide (x.u ≤ now)) G
def leadM (G : GD) : Int := match G.L with | x :: _ => x.n | [] => 0
/-- Tick: a phase that has lasted too long. -/
def tick2D (now : Int) (G : GD) : GD := if now < G.un then G else if G.ph = 1 then closeD now G else if G.ph = 2 then beginD now (dropD (fun x => decide (x.n = leadM G)) G) else G
def tickD (now : Int) (G : GD) : GD := if timeB now = true then tick2D now (tick1D now G) else G
theorem tick1D_bd {G : GD} (h : GBd G) (now : Int) : GBd (tick1D now G) := by
  unfold tick1D
  split
  · exact (h.drop _).goOn now
  · exact h.drop _
theorem tick1D_gn (now : Int) (G : GD) : (tick1D now G).gn = G.gn ∨ (tick1D now G).gn = G.gn + 1 := by
  unfold tick1D
  split
  · exact goOnD_gn now _
  · exact .inl rfl
/-- Behind the first of Tick's halves. -/
structure TkS (W0 W : World) (B p : Nat) (v0 : Value) (nb : Nat) (now : Int) (G : GD) (v : Value) (R : List MV) (w : World) : Prop where
  is : GrIs w B p v R G
  off : Off (GrS p v0) W w
  val : ∀ k, v.ownBlock = some k → v0.ownBlock = some k ∨ W.heap.size ≤ k
  box : Box w nb 3 #[.int .i64 now]
end Go.Proofs.Ytlokhhjhckiloaa
