/- member: Sync, by a contract. No condition but that numbers are small. -/
import Derived.Test.YtlokhhjhckiloaaMbDa
namespace Go.Proofs.Ytlokhhjhckiloaa
open Go.RowKit
set_option linter.unusedVariables false
/-- Sync, when the member is heard: the group, the error. -/
def sync2D (m : Int) (T : List TX) (round : Bool) (G : GD) : GD := if G.ph = 2 then (if m = leadM G then dealD T round G else G) else G
def sync2E (m : Int) (T : List TX) (G : GD) : Int := if G.ph = 2 then (if m = leadM G then dealE G.L T else 13) else 0
def syncD (m gen : Int) (T : List TX) (round : Bool) (now : Int) (G : GD) : GD := if timeB now = true ∧ knowE m gen G = 0 then (match posM m G.L with | some k => sync2D m T round (hearD k now G) | none => G) else G
def syncE (m gen : Int) (T : List TX) (now : Int) (G : GD) : Int := if timeB now = true then (if knowE m gen G = 0 then (match posM m G.L with | some k => sync2E m T (hearD k now G) | none => 0) else knowE m gen G) else 1
def partAt (k : Nat) (G : GD) : List TX := match G.L[k]? with | some x => x.P | none => []
def syncP (m gen : Int) (T : List TX) (round : Bool) (now : Int) (G : GD) : List TX := if syncE m gen T now G = 0 then (match posM m G.L with | some k => partAt k (syncD m gen T round now G) | none => []) else []
/-- What Sync gives. -/
def GotSy (B p : Nat) (v : Value) (W : World) (G' : GD) (P : List TX) (err : Int) (e : Ending) (w' : World) : Prop :=
  ∃ A c, e = .returned (.tuple #[.slice A P.length c, .int .i64 err]) ∧ w'.ownsRow W.heap.size 42 2 (.slice A P.length c) P.length (prtC P) ∧ ∃ v' R', GrIs w' B p v' R' G' ∧ Off (GrS p v) W w' ∧ ∀ k, v'.ownBlock = some k → v.ownBlock = some k ∨ W.heap.size ≤ k
theorem GotSy.no {B p : Nat} {v v' : Value} {W w' : World} {R' : List MV} {G' : GD} {err : Int} (h : GrIs w' B p v' R' G') (ho : Off (GrS p v) W w') (hv : ∀ k, v'.ownBlock = some k → v.ownBlock = some k ∨ W.heap.size ≤ k) : GotSy B p v W G' [] err (.returned (.tuple #[.slice none 0 0, .int .i64 err])) w' :=
  ⟨none, 0, rfl, World.ownsRow_nil _ _ _ _, v', R', h, ho, hv⟩
theorem know_name {m gen : Int} {G : GD} (h : knowE m gen G = 0) : nameE m gen G = 0 := by
  unfold knowE at h
  split at h
  · assumption
  · rename_i h1; exact absurd h h1
theorem hearD_ph (k : Nat) (now : Int) (G : GD) : (hearD k now G).ph = G.ph := by unfold hearD; split <;> rfl
theorem hearD_len (k : Nat) (now : Int) (G : GD) : (hearD k now G).L.length = G.L.length := by
  unfold hearD
  split
  · show (G.L.set _ _).length = _
    rw [List.length_set]
  · rfl
theorem hearD_T {k : Nat} {now : Int} {G : GD} {C : List ByteArray → Prop} (h : ∀ x ∈ G.L, C x.T) : ∀ x ∈ (hearD k now G).L, C x.T := by
  unfold hearD
  cases hx : G.L[k]? with
  | none => exact h
  | some x =>
    intro y hy
    rcases List.mem_or_eq_of_mem_set hy with hy | rfl
    · exact h y hy
    · exact h x (List.mem_of_getElem? hx)
end Go.Proofs.Ytlokhhjhckiloaa
