/- assign: who wants a topic, in a row; a topic's partitions; shares ahead of all dealing: by contracts. No condition. -/
import Derived.Test.YtlokhhjhckiloaaAsTak
import Derived.Maps.AppendAt
namespace Go.Proofs.Ytlokhhjhckiloaa
open Go.RowKit
set_option linter.unusedVariables false
/-- A row under way. -/
structure RowS (W : World) (t size : Nat) (v : Value) (n : Nat) (xs : List Value) (w : World) : Prop where
  row : w.ownsRow W.heap.size t size v n xs
  bel : Below W.heap.size W w
theorem RowS.later {W w w' : World} {t size n : Nat} {v : Value} {xs : List Value} (h : RowS W t size v n xs w) (hb : Below w.heap.size w w') : RowS W t size v n xs w' := ⟨own_below h.row hb, h.bel.trans (hb.mono h.bel.size)⟩
theorem RowS.grow {W w w' : World} {t size n m : Nat} {v v' : Value} {xs ys : List Value} (h : RowS W t size v n xs w) (hr : w'.ownsRow W.heap.size t size v' m ys) (hg : w.grownBy w' v.ownBlock) : RowS W t size v' m ys w' :=
  ⟨hr, h.bel.grown hg h.bel.size (fun j e => (h.row.lt j e).1)⟩
theorem RowS.start (W : World) (t size : Nat) : RowS W t size (.slice none 0 0) 0 [] W := ⟨World.ownsRow_nil _ _ _ _, Below.refl _ _⟩
/-- A topic's partitions. -/
def prtsG (s : ByteArray) (k : Nat) : List TX := (List.range k).map fun (i : Nat) => (s, (i : Int))
theorem prtsG_len (s : ByteArray) (k : Nat) : (prtsG s k).length = k := by simp [prtsG]
theorem prtsG_succ (s : ByteArray) (k : Nat) : prtsG s (k + 1) = prtsG s k ++ [(s, (k : Int))] := by simp [prtsG, List.range_succ]
/-- Shares ahead of all dealing. -/
def emptyR (L : List SX) : List (Int × Value) := L.map fun x => (x.1, .slice none 0 0)
theorem emptyR_len (L : List SX) : (emptyR L).length = L.length := by simp [emptyR]
theorem emptyR_succ {L : List SX} {k : Nat} {x : SX} (hk : L[k]? = some x) : emptyR (L.take (k + 1)) = emptyR (L.take k) ++ [(x.1, .slice none 0 0)] := by
  unfold emptyR
  rw [List.take_add_one, hk, Option.toList_some, List.map_append]; rfl
end Go.Proofs.Ytlokhhjhckiloaa
