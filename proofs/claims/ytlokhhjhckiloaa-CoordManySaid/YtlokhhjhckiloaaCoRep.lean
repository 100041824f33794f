/- coord: the groups by their names: a map in memory. Plain words. No condition. -/
import Derived.Test.YtlokhhjhckiloaaNum
import Derived.Test.YtlokhhjhckiloaaMem
import Derived.Maps.Own
import Derived.Maps.OwnSet
import Derived.StringKeys
import Derived.KernelRfl
import Derived.WalkKit
import Derived.ProofKit
import Derived.BigQuiet
import Derived.Deep.QuietTactic
import Derived.Deep.RegionHeld3
import Derived.Deep.RegionWith
import Derived.Lib.Hide
namespace Go.Proofs.Ytlokhhjhckiloaa
open Go.RowKit Go.Maps Go.ChangeMaps Go.WideMaps
set_option linter.unusedVariables false
/-- A group's name, and where it stands. -/
structure CE where
  name : List UInt8
  blk : Nat
def ceV (e : CE) : Value := .pointer (some ⟨e.blk, 0, none⟩)
def ceD (e : CE) : DataW Unit := .lit (.int .i64 e.blk)
/-- How an entry reads. -/
def tokC (v : Value) : Option (DataW Unit × List MemPlace) :=
  match v with
  | .pointer (some ⟨b, 0, none⟩) => some (.lit (.int .i64 b), [])
  | _ => none
theorem tokC_of (e : CE) : tokC (ceV e) = some (ceD e, []) := rfl
theorem tokC_inv {v : Value} {e : CE} {ps : List MemPlace} (h : tokC v = some (ceD e, ps)) : v = ceV e := by
  unfold tokC at h
  split at h
  · rename_i b
    unfold ceD at h
    simp at h
    unfold ceV
    have h1 : b = e.blk := by omega
    rw [h1]
  · cases h
def entC (e : CE) : Lit × DataW Unit := (.string e.name, ceD e)
def mapC (F : List CE) : DataW Unit := .map (F.map entC)
/-- All groups: how long, the map, the offsets. -/
structure CoIs (w : World) (p g o : Nat) (ss rb : Int) (F : List CE) : Prop where
  box : Box w p 53 #[.int .i64 ss, .int .i64 rb, .map (some g), .pointer (some ⟨o, 0, none⟩)]
  map : w.ownsMap Try.prog 9 tokC g F.length (mapC F)
  rise : F.Pairwise fun a b => bytesBefore a.name b.name = true
theorem map_off {w w' : World} {S : Nat → Prop} {k : TypeId} {R : Value → Option (DataW Unit × List MemPlace)} {b n : Nat} {D : DataW Unit} (h : w.ownsMap Try.prog k R b n D) (ho : Off S w w') (hS : ¬ S b) : w'.ownsMap Try.prog k R b n D := by
  have hlt := h.lt
  obtain ⟨es, clock, hb, F, hs, hD⟩ := h
  exact ⟨es, clock, (ho.block b hlt hS).trans hb, F, hs, hD⟩
theorem CoIs.off {w w' : World} {S : Nat → Prop} {p g o : Nat} {ss rb : Int} {F : List CE} (h : CoIs w p g o ss rb F) (ho : Off S w w') (hp : ¬ S p) (hm : ¬ S g) : CoIs w' p g o ss rb F :=
  ⟨h.box.off ho hp, map_off h.map ho hm, h.rise⟩
theorem CoIs.later {w w' : World} {p g o : Nat} {ss rb : Int} {F : List CE} (h : CoIs w p g o ss rb F) (hb : Below w.heap.size w w') : CoIs w' p g o ss rb F := h.off (Off.of_below (fun _ => False) hb) (fun x => x) (fun x => x)
theorem CoIs.cells {w : World} {p g o : Nat} {ss rb : Int} {F : List CE} (h : CoIs w p g o ss rb F) : w.cell? ⟨p, 0, none⟩ = some (.int .i64 ss) ∧ w.cell? ⟨p, 1, none⟩ = some (.int .i64 rb) ∧ w.cell? ⟨p, 2, none⟩ = some (.map (some g)) ∧ w.cell? ⟨p, 3, none⟩ = some (.pointer (some ⟨o, 0, none⟩)) ∧ p < w.heap.size :=
  ⟨(h.box.cell 0).trans rfl, (h.box.cell 1).trans rfl, (h.box.cell 2).trans rfl, (h.box.cell 3).trans rfl, h.box.lt⟩
/-- The group of a name. -/
def ofN (F : List CE) (n : List UInt8) : Option CE := F.find? fun e => e.name == n
theorem ofN_mem {F : List CE} {n : List UInt8} {e : CE} (h : ofN F n = some e) : e ∈ F ∧ e.name = n := by
  unfold ofN at h
  exact ⟨List.mem_of_find?_eq_some h, by have := List.find?_some h; simpa using this⟩
theorem mapC_at (F : List CE) (n : List UInt8) (z : DataW Unit) : (mapC F).atKey (.string n) z = match ofN F n with | some e => ceD e | none => z := by
  unfold mapC DataW.atKey ofN
  simp only [List.find?_map]
  have e : ((fun p : Lit × DataW Unit => p.1.sameKey (.string n)) ∘ entC) = fun e : CE => e.name == n := by
    funext e
    rfl
  rw [e]
  cases F.find? fun e => e.name == n <;> rfl
theorem zeroC (w : World) : (zeroValue 45).run Try.prog w = .ok (.pointer none) w := by kernel_rfl
def lookV (o : Option CE) : Value := match o with | some e => ceV e | none => .pointer none
theorem look_any {w : World} {p g o : Nat} {ss rb : Int} {F : List CE} (h : CoIs w p g o ss rb F) (s : ByteArray) (hs : s.size ≤ maxLen) (c : Bool) : (Instr.lookup 51 (.map (some g)) (.string s) c).run Try.prog w = .ok (if c then .tuple #[lookV (ofN F s.data.toList), .bool (ofN F s.data.toList).isSome] else lookV (ofN F s.data.toList)) w := by
  have h2 := h.map
  have ha := fun z => mapC_at F s.data.toList z
  obtain ⟨es, clock, hb, Ft, _, hD⟩ := h2
  rw [hD] at ha
  rcases Maps.fit_look c (string_keyed Try.underlying9) Try.underlying51 (zeroC _) hb Ft (keyOf_string_mk Try.underlying9 hs) with ⟨hrun, _, hat⟩ | ⟨e0, y, _, _, hrun, hRv, hat, _⟩
  · rw [hrun]
    cases hf : ofN F s.data.toList with
    | none => rfl
    | some e =>
      have h3 := ha .nil
      rw [hf, hat] at h3
      cases h3
  · rw [hrun]
    cases hf : ofN F s.data.toList with
    | none =>
      have h3 := ha .nil
      have h4 := ha (.lit (.bool true))
      rw [hf, hat] at h3 h4
      rw [h3] at h4
      cases h4
    | some e =>
      have h3 := ha .nil
      rw [hf, hat] at h3
      simp only at h3
      obtain ⟨y1, y2⟩ := y
      simp only at h3
      subst h3
      rw [tokC_inv hRv]
      rfl
def dp (p : Nat) : Value := .pointer (some ⟨p, 0, none⟩)
theorem mapC_size (F : List CE) : Maps.size (mapC F) = F.length := by unfold mapC Maps.size; simp
theorem len_run {w : World} {p g o : Nat} {ss rb : Int} {F : List CE} (h : CoIs w p g o ss rb F) (ty : TypeId) : (Builtin.len_ #[51] ty #[.map (some g)]).run Try.prog w = .ok (.int .i64 (F.length : Int)) w := by
  rw [h.map.len Try.underlying51, mapC_size]
/-- One in its place by its name. -/
def insC (x : CE) : List CE → List CE
  | [] => [x]
  | y :: r => if bytesBefore x.name y.name then x :: y :: r else y :: insC x r
def minC (F : List CE) (n : List UInt8) : List CE := F.filter fun e => !(e.name == n)
def putC (x : CE) (F : List CE) : List CE := insC x (minC F x.name)
theorem insert_entC (x : CE) : ∀ F : List CE, DataW.insert (entC x) (F.map entC) = (insC x F).map entC
  | [] => rfl
  | y :: r => by
    have ih := insert_entC x r
    show (if (entC x).1.before (entC y).1 then _ else _) = _
    unfold insC
    have e : (entC x).1.before (entC y).1 = bytesBefore x.name y.name := rfl
    rw [e]
    split
    · rfl
    · simp only [List.map_cons, ih]
theorem filter_entC (n : List UInt8) (F : List CE) : (F.map entC).filter (fun q => !q.1.sameKey (.string n)) = (minC F n).map entC := by
  unfold minC
  rw [List.filter_map]
  rfl
theorem mapC_put (F : List CE) (x : CE) : (mapC F).put (.string x.name) (ceD x) = mapC (putC x F) := by
  unfold mapC DataW.put putC
  simp only
  rw [filter_entC]
  exact congrArg DataW.map (insert_entC x _)
theorem mapC_del (F : List CE) (n : List UInt8) : (mapC F).del (.string n) = mapC (minC F n) := by
  unfold mapC DataW.del
  simp only
  rw [filter_entC]
theorem insC_perm (x : CE) : ∀ F : List CE, (insC x F).Perm (x :: F)
  | [] => List.Perm.refl _
  | y :: r => by
    unfold insC
    split
    · exact List.Perm.refl _
    · exact ((insC_perm x r).cons y).trans (List.Perm.swap x y r)
theorem insC_mem {x g : CE} {F : List CE} : g ∈ insC x F ↔ g = x ∨ g ∈ F := by rw [(insC_perm x F).mem_iff, List.mem_cons]
theorem insC_len (x : CE) (F : List CE) : (insC x F).length = F.length + 1 := by rw [(insC_perm x F).length_eq, List.length_cons]
theorem bytes_trans' {a b c : List UInt8} (h : bytesBefore a b = true) (k : bytesBefore b c = true) : bytesBefore a c = true := Go.WideShapes.bytes_trans a b c h k
theorem insC_rise {x : CE} : ∀ {F : List CE}, F.Pairwise (fun a b => bytesBefore a.name b.name = true) → (∀ g ∈ F, g.name ≠ x.name) → (insC x F).Pairwise fun a b => bytesBefore a.name b.name = true
  | [], _, _ => List.pairwise_singleton _ _
  | y :: r, h, hn => by
    unfold insC
    rw [List.pairwise_cons] at h
    split
    · rename_i hlt
      rw [List.pairwise_cons, List.pairwise_cons]
      refine ⟨fun g hg => ?_, h⟩
      rcases List.mem_cons.1 hg with rfl | hg
      · exact hlt
      · exact bytes_trans' hlt (h.1 g hg)
    · rename_i hlt
      rw [List.pairwise_cons]
      refine ⟨fun g hg => ?_, insC_rise h.2 (fun g hg => hn g (by simp [hg]))⟩
      rcases insC_mem.1 hg with rfl | hg
      · rcases Go.WideAt.bytes_total g.name y.name (fun e => hn y (by simp) e.symm) with q | q
        · exact absurd q hlt
        · exact q
      · exact h.1 g hg
theorem minC_mem {F : List CE} {n : List UInt8} {g : CE} : g ∈ minC F n ↔ g ∈ F ∧ g.name ≠ n := by
  unfold minC
  rw [List.mem_filter]
  simp
theorem minC_len (F : List CE) (n : List UInt8) : (minC F n).length ≤ F.length := List.length_filter_le _ _
theorem minC_rise {F : List CE} {n : List UInt8} (h : F.Pairwise fun a b => bytesBefore a.name b.name = true) : (minC F n).Pairwise fun a b => bytesBefore a.name b.name = true := h.sublist List.filter_sublist
theorem minC_none {F : List CE} {n : List UInt8} (h : ofN F n = none) : minC F n = F := by
  unfold minC
  rw [List.filter_eq_self]
  intro e he
  have := List.find?_eq_none.1 h e he
  simpa using this
theorem putC_mem {x g : CE} {F : List CE} : g ∈ putC x F ↔ g = x ∨ (g ∈ F ∧ g.name ≠ x.name) := by
  unfold putC
  rw [insC_mem, minC_mem]
theorem putC_len (x : CE) (F : List CE) : (putC x F).length ≤ F.length + 1 := by
  unfold putC
  rw [insC_len]
  have := minC_len F x.name
  omega
theorem putC_rise {x : CE} {F : List CE} (h : F.Pairwise fun a b => bytesBefore a.name b.name = true) : (putC x F).Pairwise fun a b => bytesBefore a.name b.name = true :=
  insC_rise (minC_rise h) fun g hg => (minC_mem.1 hg).2
theorem map_tight {w : World} {k : TypeId} {b n : Nat} {F : List CE} (h : w.ownsMap Try.prog k tokC b n (mapC F)) : w.ownsMap Try.prog k tokC b F.length (mapC F) := by
  obtain ⟨es, clock, hb, Ft, hs, hD⟩ := h
  refine ⟨es, clock, hb, Ft, ?_, hD⟩
  have e : F.map entC = (es.toList.map (Go.WideElems.rg Try.prog k tokC)).foldr DataW.insert [] := by
    unfold mapC at hD
    injection hD
  have := congrArg List.length e
  rw [length_sorted] at this
  simp at this
  omega
/-- The store into the map, as one world's turn into another. -/
theorem upd_fun (g nn : Nat) (F : List CE) (n : ByteArray) (x : CE) (hx : x.name = n.data.toList) (hn : n.size ≤ maxLen) (hnn : nn < maxLen) :
    ∃ U : World → World, (∀ w : World, w.ownsMap Try.prog 9 tokC g nn (mapC F) → (Instr.mapUpdate 51 (.map (some g)) (.string n) (.pointer (some ⟨x.blk, 0, none⟩))).run Try.prog w = .ok () (U w)) ∧
      ∀ w : World, w.ownsMap Try.prog 9 tokC g nn (mapC F) → (U w).ownsMap Try.prog 9 tokC g (putC x F).length (mapC (putC x F)) ∧ w.grownBy (U w) (some g) := by
  have key : ∀ w : World, w.ownsMap Try.prog 9 tokC g nn (mapC F) → ∃ w' : World, (Instr.mapUpdate 51 (.map (some g)) (.string n) (.pointer (some ⟨x.blk, 0, none⟩))).run Try.prog w = .ok () w' ∧ w'.ownsMap Try.prog 9 tokC g (putC x F).length (mapC (putC x F)) ∧ w.grownBy w' (some g) := by
    intro w h
    obtain ⟨w', h1, h2, h3⟩ := h.update (string_keyed Try.underlying9) Try.underlying51 hnn (keyOf_string_mk Try.underlying9 hn) (val := .pointer (some ⟨x.blk, 0, none⟩)) (d := ceD x) (ps := []) rfl
    rw [← hx, mapC_put F x] at h2
    exact ⟨w', h1, map_tight h2, h3⟩
  classical
  refine ⟨fun w => if h : w.ownsMap Try.prog 9 tokC g nn (mapC F) then Classical.choose (key w h) else w, fun w h => ?_, fun w h => ?_⟩
  · simp only [dif_pos h]
    exact (Classical.choose_spec (key w h)).1
  · simp only [dif_pos h]
    exact (Classical.choose_spec (key w h)).2
theorem box_ne_map {w : World} {b g n : Nat} {t k : TypeId} {cs : Array Value} {D : DataW Unit} {R : Value → Option (DataW Unit × List MemPlace)} (h : Box w b t cs) (hm : w.ownsMap Try.prog k R g n D) : b ≠ g := by
  rintro rfl
  obtain ⟨es, clock, hb, _⟩ := hm
  unfold Box at h
  rw [h] at hb
  cases hb
theorem box_grown {w w' : World} {p g : Nat} {t : TypeId} {cs : Array Value} (h : Box w p t cs) (hg : w.grownBy w' (some g)) (hne : p ≠ g) : Box w' p t cs :=
  (hg.block p h.lt (fun e => hne (by injection e))).trans h
end Go.Proofs.Ytlokhhjhckiloaa
