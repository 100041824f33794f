/- topic: a table in memory: its block, its map. Plain words. No condition. -/
import Derived.Test.YtnpfakjgocnkbaaNum
import Derived.Test.YtnpfakjgocnkbaaMem
import Derived.Maps.Own
import Derived.Maps.OwnSet
import Derived.StringKeys
import Derived.KernelRfl
import Derived.WalkKit
import Derived.ProofKit
import Derived.BigQuiet
import Derived.Deep.QuietTactic
import Derived.Deep.RegionHeld3
import Derived.Deep.RegionWith
import Derived.Lib.Hide
namespace Go.Proofs.Ytnpfakjgocnkbaa
open Go.RowKit Go.Maps Go.ChangeMaps Go.WideMaps
set_option linter.unusedVariables false
/-- A topic: its name, its id, of how many partitions it is. -/
structure TE where
  name : List UInt8
  id : Int
  parts : Int
def teV (e : TE) : Value := .agg #[.int .i64 e.id, .int .i64 e.parts]
def teD (e : TE) : DataW Unit := .agg [.lit (.int .i64 e.id), .lit (.int .i64 e.parts)]
def tokL (l : List Value) : Option (DataW Unit × List MemPlace) :=
  match l with
  | [.int .i64 a, .int .i64 b] => some (.agg [.lit (.int .i64 a), .lit (.int .i64 b)], [])
  | _ => none
/-- How an entry reads. -/
def tokT (v : Value) : Option (DataW Unit × List MemPlace) :=
  match v with
  | .agg a => tokL a.toList
  | _ => none
theorem tokT_of (e : TE) : tokT (teV e) = some (teD e, []) := rfl
theorem tokL_inv {l : List Value} {e : TE} {ps : List MemPlace} (h : tokL l = some (teD e, ps)) : l = [.int .i64 e.id, .int .i64 e.parts] := by
  unfold tokL at h
  split at h
  · unfold teD at h
    simp at h
    obtain ⟨⟨h1, h2⟩, _⟩ := h
    rw [h1, h2]
  · cases h
theorem tokT_inv {v : Value} {e : TE} {ps : List MemPlace} (h : tokT v = some (teD e, ps)) : v = teV e := by
  unfold tokT at h
  split at h
  · rename_i a
    have := tokL_inv h
    unfold teV
    congr 1
    cases a
    simp at this
    rw [this]
  · cases h
def entT (e : TE) : Lit × DataW Unit := (.string e.name, teD e)
def mapT (F : List TE) : DataW Unit := .map (F.map entT)
/-- A table: the next id, its topics by their names. -/
structure TbIs (w : World) (p : Nat) (m : Option Nat) (n : Int) (F : List TE) : Prop where
  box : Box w p 56 #[.int .i64 n, .map m]
  map : (m = none ∧ F = []) ∨ ∃ g, m = some g ∧ w.ownsMap Try.prog 9 tokT g F.length (mapT F)
  rise : F.Pairwise fun a b => bytesBefore a.name b.name = true
theorem map_off {w w' : World} {S : Nat → Prop} {k : TypeId} {R : Value → Option (DataW Unit × List MemPlace)} {b n : Nat} {D : DataW Unit} (h : w.ownsMap Try.prog k R b n D) (ho : Off S w w') (hS : ¬ S b) : w'.ownsMap Try.prog k R b n D := by
  have hlt := h.lt
  obtain ⟨es, clock, hb, F, hs, hD⟩ := h
  exact ⟨es, clock, (ho.block b hlt hS).trans hb, F, hs, hD⟩
theorem TbIs.off {w w' : World} {S : Nat → Prop} {p : Nat} {m : Option Nat} {n : Int} {F : List TE} (h : TbIs w p m n F) (ho : Off S w w') (hp : ¬ S p) (hm : ∀ k, m = some k → ¬ S k) : TbIs w' p m n F :=
  ⟨h.box.off ho hp, by
    rcases h.map with h1 | ⟨g, h1, h2⟩
    · exact .inl h1
    · exact .inr ⟨g, h1, map_off h2 ho (hm g h1)⟩, h.rise⟩
theorem TbIs.later {w w' : World} {p : Nat} {m : Option Nat} {n : Int} {F : List TE} (h : TbIs w p m n F) (hb : Below w.heap.size w w') : TbIs w' p m n F := h.off (Off.of_below (fun _ => False) hb) (fun x => x) (fun _ _ x => x)
theorem TbIs.cells {w : World} {p : Nat} {m : Option Nat} {n : Int} {F : List TE} (h : TbIs w p m n F) : w.cell? ⟨p, 0, none⟩ = some (.int .i64 n) ∧ w.cell? ⟨p, 1, none⟩ = some (.map m) ∧ p < w.heap.size :=
  ⟨(h.box.cell 0).trans rfl, (h.box.cell 1).trans rfl, h.box.lt⟩
/-- The topic of a name. -/
def ofN (F : List TE) (n : List UInt8) : Option TE := F.find? fun e => e.name == n
theorem ofN_mem {F : List TE} {n : List UInt8} {e : TE} (h : ofN F n = some e) : e ∈ F ∧ e.name = n := by
  unfold ofN at h
  exact ⟨List.mem_of_find?_eq_some h, by have := List.find?_some h; simpa using this⟩
theorem mapT_at (F : List TE) (n : List UInt8) (z : DataW Unit) : (mapT F).atKey (.string n) z = match ofN F n with | some e => teD e | none => z := by
  unfold mapT DataW.atKey ofN
  simp only [List.find?_map]
  have e : ((fun p : Lit × DataW Unit => p.1.sameKey (.string n)) ∘ entT) = fun e : TE => e.name == n := by
    funext e
    rfl
  rw [e]
  cases F.find? fun e => e.name == n <;> rfl
theorem zeroT (w : World) : (zeroValue 59).run Try.prog w = .ok (.agg #[.int .i64 0, .int .i64 0]) w := by kernel_rfl
def lookV (o : Option TE) : Value := match o with | some e => teV e | none => .agg #[.int .i64 0, .int .i64 0]
def lookB (o : Option TE) : Bool := o.isSome
theorem look_any {w : World} {p : Nat} {m : Option Nat} {n : Int} {F : List TE} (h : TbIs w p m n F) (s : ByteArray) (hs : s.size ≤ maxLen) (c : Bool) : (Instr.lookup 54 (.map m) (.string s) c).run Try.prog w = .ok (if c then .tuple #[lookV (ofN F s.data.toList), .bool (lookB (ofN F s.data.toList))] else lookV (ofN F s.data.toList)) w := by
  rcases h.map with ⟨h1, h2⟩ | ⟨g, h1, h2⟩
  · rw [h1, h2]
    have := look_nil (w := w) c (string_keyed Try.underlying9) Try.underlying54 (zeroT _) (keyOf_string_mk Try.underlying9 hs)
    rw [this]
    rfl
  · rw [h1]
    have ha := fun z => mapT_at F s.data.toList z
    obtain ⟨es, clock, hb, Ft, _, hD⟩ := h2
    rw [hD] at ha
    rcases Maps.fit_look c (string_keyed Try.underlying9) Try.underlying54 (zeroT _) hb Ft (keyOf_string_mk Try.underlying9 hs) with ⟨hrun, _, hat⟩ | ⟨e0, y, _, _, hrun, hRv, hat, _⟩
    · rw [hrun]
      cases hf : ofN F s.data.toList with
      | none => rfl
      | some e =>
        have h3 := ha .nil
        rw [hf, hat] at h3
        cases h3
    · rw [hrun]
      cases hf : ofN F s.data.toList with
      | none =>
        have h3 := ha .nil
        have h4 := ha (.lit (.bool true))
        rw [hf, hat] at h3 h4
        rw [h3] at h4
        cases h4
      | some e =>
        have h3 := ha .nil
        rw [hf, hat] at h3
        simp only at h3
        obtain ⟨y1, y2⟩ := y
        simp only at h3
        subst h3
        rw [tokT_inv hRv]
        rfl
def dp (p : Nat) : Value := .pointer (some ⟨p, 0, none⟩)
theorem mapT_size (F : List TE) : Maps.size (mapT F) = F.length := by unfold mapT Maps.size; simp
theorem len_run {w : World} {p : Nat} {m : Option Nat} {n : Int} {F : List TE} (h : TbIs w p m n F) (ty : TypeId) : (Builtin.len_ #[54] ty #[.map m]).run Try.prog w = .ok (.int .i64 (F.length : Int)) w := by
  rcases h.map with ⟨rfl, rfl⟩ | ⟨g, rfl, hown⟩
  · have u := run_underlying (P := Try.prog) Try.underlying54
    simp [Builtin.len_, go_sem, u]
  · rw [hown.len Try.underlying54, mapT_size]
theorem new_c (W : World) : Calls Try.prog 8 #[] W (fun e w' => e = .returned (dp W.heap.size) ∧ w' = W.alloc (.cells #[.int .i64 0, .map none] 56)) := by
  unfold dp
  go_enter Try.func8, Try.ntmps8
  go_wp2
  go_ret
  exact ⟨rfl, rfl⟩
theorem new_is (W : World) : TbIs (W.alloc (.cells #[.int .i64 0, .map none] 56)) W.heap.size none 0 [] := ⟨Box.new _ _ _, .inl ⟨rfl, rfl⟩, .nil⟩
/-- Is a number within bounds? -/
def witB (n l m : Int) : Bool := decide (l ≤ n) && decide (n ≤ m)
theorem within_c (n l m : Int) (W : World) : Calls Try.prog 23 #[.int .i64 n, .int .i64 l, .int .i64 m] W (fun e w' => e = .returned (.bool (witB n l m)) ∧ w' = W) := by
  unfold witB
  by_cases h : l ≤ n
  · rw [decide_eq_true h]
    go_enter Try.func23, Try.ntmps23
    go_wp2
    go_ret
    exact ⟨by simp, rfl⟩
  · rw [decide_eq_false h]
    go_enter Try.func23, Try.ntmps23
    go_wp2
    go_ret
    exact ⟨rfl, rfl⟩
end Go.Proofs.Ytnpfakjgocnkbaa
