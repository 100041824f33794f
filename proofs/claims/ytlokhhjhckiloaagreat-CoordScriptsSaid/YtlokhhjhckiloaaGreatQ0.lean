/- coord: merged texts. What each proves is told at its head. -/
import Derived.Test.YtlokhhjhckiloaaGreatNum
import Derived.Test.YtlokhhjhckiloaaGreatMem
import Derived.Maps.Own
import Derived.Maps.OwnSet
import Derived.StringKeys
import Derived.KernelRfl
import Derived.WalkKit
import Derived.ProofKit
import Derived.BigQuiet
import Derived.Deep.QuietTactic
import Derived.Deep.RegionHeld3
import Derived.Deep.RegionWith
import Derived.Lib.Hide
import Derived.DeepKeys4
import Derived.Test.YtlokhhjhckiloaaGreatAsClone
import Derived.Test.YtlokhhjhckiloaaGreatProg
import Derived.Deep.AppendLies
import Derived.Deep.RegionLaw
import Derived.Deep.RegionHeld
import Derived.Test.YtlokhhjhckiloaaGreatMbOw
/- coord: the groups by their names: a map in memory. Plain words. No condition. -/
namespace Go.Proofs.YtlokhhjhckiloaaGreat
open Go.RowKit Go.Maps Go.ChangeMaps Go.WideMaps
set_option linter.unusedVariables false
/-- A group's name, and where it stands. -/
structure CE where
  name : List UInt8
  blk : Nat
def ceV (e : CE) : Value := .pointer (some ⟨e.blk, 0, none⟩)
def ceD (e : CE) : DataW Unit := .lit (.int .i64 e.blk)
/-- How an entry reads. -/
def tokC (v : Value) : Option (DataW Unit × List MemPlace) :=
  match v with
  | .pointer (some ⟨b, 0, none⟩) => some (.lit (.int .i64 b), [])
  | _ => none
theorem tokC_of (e : CE) : tokC (ceV e) = some (ceD e, []) := rfl
theorem tokC_inv {v : Value} {e : CE} {ps : List MemPlace} (h : tokC v = some (ceD e, ps)) : v = ceV e := by
  unfold tokC at h
  split at h
  · rename_i b
    unfold ceD at h
    simp at h
    unfold ceV
    have h1 : b = e.blk := by omega
    rw [h1]
  · cases h
def entC (e : CE) : Lit × DataW Unit := (.string e.name, ceD e)
def mapC (F : List CE) : DataW Unit := .map (F.map entC)
/-- All groups: how long, the map, the offsets. -/
structure CoIs (w : World) (p g o : Nat) (ss rb : Int) (F : List CE) : Prop where
  box : Box w p 69 #[.int .i64 ss, .int .i64 rb, .map (some g), .pointer (some ⟨o, 0, none⟩)]
  map : w.ownsMap Tryz.prog 9 tokC g F.length (mapC F)
  rise : F.Pairwise fun a b => bytesBefore a.name b.name = true
theorem map_off {w w' : World} {S : Nat → Prop} {k : TypeId} {R : Value → Option (DataW Unit × List MemPlace)} {b n : Nat} {D : DataW Unit} (h : w.ownsMap Tryz.prog k R b n D) (ho : Off S w w') (hS : ¬ S b) : w'.ownsMap Tryz.prog k R b n D := by
  have hlt := h.lt
  obtain ⟨es, clock, hb, F, hs, hD⟩ := h
  exact ⟨es, clock, (ho.block b hlt hS).trans hb, F, hs, hD⟩
theorem CoIs.off {w w' : World} {S : Nat → Prop} {p g o : Nat} {ss rb : Int} {F : List CE} (h : CoIs w p g o ss rb F) (ho : Off S w w') (hp : ¬ S p) (hm : ¬ S g) : CoIs w' p g o ss rb F :=
  ⟨h.box.off ho hp, map_off h.map ho hm, h.rise⟩
theorem CoIs.later {w w' : World} {p g o : Nat} {ss rb : Int} {F : List CE} (h : CoIs w p g o ss rb F) (hb : Below w.heap.size w w') : CoIs w' p g o ss rb F := h.off (Off.of_below (fun _ => False) hb) (fun x => x) (fun x => x)
theorem CoIs.cells {w : World} {p g o : Nat} {ss rb : Int} {F : List CE} (h : CoIs w p g o ss rb F) : w.cell? ⟨p, 0, none⟩ = some (.int .i64 ss) ∧ w.cell? ⟨p, 1, none⟩ = some (.int .i64 rb) ∧ w.cell? ⟨p, 2, none⟩ = some (.map (some g)) ∧ w.cell? ⟨p, 3, none⟩ = some (.pointer (some ⟨o, 0, none⟩)) ∧ p < w.heap.size :=
  ⟨(h.box.cell 0).trans rfl, (h.box.cell 1).trans rfl, (h.box.cell 2).trans rfl, (h.box.cell 3).trans rfl, h.box.lt⟩
/-- The group of a name. -/
def ofN (F : List CE) (n : List UInt8) : Option CE := F.find? fun e => e.name == n
theorem ofN_mem {F : List CE} {n : List UInt8} {e : CE} (h : ofN F n = some e) : e ∈ F ∧ e.name = n := by
  unfold ofN at h
  exact ⟨List.mem_of_find?_eq_some h, by have := List.find?_some h; simpa using this⟩
theorem mapC_at (F : List CE) (n : List UInt8) (z : DataW Unit) : (mapC F).atKey (.string n) z = match ofN F n with | some e => ceD e | none => z := by
  unfold mapC DataW.atKey ofN
  simp only [List.find?_map]
  have e : ((fun p : Lit × DataW Unit => p.1.sameKey (.string n)) ∘ entC) = fun e : CE => e.name == n := by
    funext e
    rfl
  rw [e]
  cases F.find? fun e => e.name == n <;> rfl
theorem zeroC (w : World) : (zeroValue 61).run Tryz.prog w = .ok (.pointer none) w := by kernel_rfl
def lookV (o : Option CE) : Value := match o with | some e => ceV e | none => .pointer none
theorem look_any {w : World} {p g o : Nat} {ss rb : Int} {F : List CE} (h : CoIs w p g o ss rb F) (s : ByteArray) (hs : s.size ≤ maxLen) (c : Bool) : (Instr.lookup 67 (.map (some g)) (.string s) c).run Tryz.prog w = .ok (if c then .tuple #[lookV (ofN F s.data.toList), .bool (ofN F s.data.toList).isSome] else lookV (ofN F s.data.toList)) w := by
  have h2 := h.map
  have ha := fun z => mapC_at F s.data.toList z
  obtain ⟨es, clock, hb, Ft, _, hD⟩ := h2
  rw [hD] at ha
  rcases Maps.fit_look c (string_keyed Tryz.underlying9) Tryz.underlying67 (zeroC _) hb Ft (keyOf_string_mk Tryz.underlying9 hs) with ⟨hrun, _, hat⟩ | ⟨e0, y, _, _, hrun, hRv, hat, _⟩
  · rw [hrun]
    cases hf : ofN F s.data.toList with
    | none => rfl
    | some e =>
      have h3 := ha .nil
      rw [hf, hat] at h3
      cases h3
  · rw [hrun]
    cases hf : ofN F s.data.toList with
    | none =>
      have h3 := ha .nil
      have h4 := ha (.lit (.bool true))
      rw [hf, hat] at h3 h4
      rw [h3] at h4
      cases h4
    | some e =>
      have h3 := ha .nil
      rw [hf, hat] at h3
      simp only at h3
      obtain ⟨y1, y2⟩ := y
      simp only at h3
      subst h3
      rw [tokC_inv hRv]
      rfl
def dp (p : Nat) : Value := .pointer (some ⟨p, 0, none⟩)
theorem mapC_size (F : List CE) : Maps.size (mapC F) = F.length := by unfold mapC Maps.size; simp
theorem len_run {w : World} {p g o : Nat} {ss rb : Int} {F : List CE} (h : CoIs w p g o ss rb F) (ty : TypeId) : (Builtin.len_ #[67] ty #[.map (some g)]).run Tryz.prog w = .ok (.int .i64 (F.length : Int)) w := by
  rw [h.map.len Tryz.underlying67, mapC_size]
/-- One in its place by its name. -/
def insC (x : CE) : List CE → List CE
  | [] => [x]
  | y :: r => if bytesBefore x.name y.name then x :: y :: r else y :: insC x r
def minC (F : List CE) (n : List UInt8) : List CE := F.filter fun e => !(e.name == n)
def putC (x : CE) (F : List CE) : List CE := insC x (minC F x.name)
theorem insert_entC (x : CE) : ∀ F : List CE, DataW.insert (entC x) (F.map entC) = (insC x F).map entC
  | [] => rfl
  | y :: r => by
    have ih := insert_entC x r
    show (if (entC x).1.before (entC y).1 then _ else _) = _
    unfold insC
    have e : (entC x).1.before (entC y).1 = bytesBefore x.name y.name := rfl
    rw [e]
    split
    · rfl
    · simp only [List.map_cons, ih]
theorem filter_entC (n : List UInt8) (F : List CE) : (F.map entC).filter (fun q => !q.1.sameKey (.string n)) = (minC F n).map entC := by
  unfold minC
  rw [List.filter_map]
  rfl
theorem mapC_put (F : List CE) (x : CE) : (mapC F).put (.string x.name) (ceD x) = mapC (putC x F) := by
  unfold mapC DataW.put putC
  simp only
  rw [filter_entC]
  exact congrArg DataW.map (insert_entC x _)
theorem mapC_del (F : List CE) (n : List UInt8) : (mapC F).del (.string n) = mapC (minC F n) := by
  unfold mapC DataW.del
  simp only
  rw [filter_entC]
theorem insC_perm (x : CE) : ∀ F : List CE, (insC x F).Perm (x :: F)
  | [] => List.Perm.refl _
  | y :: r => by
    unfold insC
    split
    · exact List.Perm.refl _
    · exact ((insC_perm x r).cons y).trans (List.Perm.swap x y r)
theorem insC_mem {x g : CE} {F : List CE} : g ∈ insC x F ↔ g = x ∨ g ∈ F := by rw [(insC_perm x F).mem_iff, List.mem_cons]
theorem insC_len (x : CE) (F : List CE) : (insC x F).length = F.length + 1 := by rw [(insC_perm x F).length_eq, List.length_cons]
theorem bytes_trans' {a b c : List UInt8} (h : bytesBefore a b = true) (k : bytesBefore b c = true) : bytesBefore a c = true := Go.WideShapes.bytes_trans a b c h k
theorem insC_rise {x : CE} : ∀ {F : List CE}, F.Pairwise (fun a b => bytesBefore a.name b.name = true) → (∀ g ∈ F, g.name ≠ x.name) → (insC x F).Pairwise fun a b => bytesBefore a.name b.name = true
  | [], _, _ => List.pairwise_singleton _ _
  | y :: r, h, hn => by
    unfold insC
    rw [List.pairwise_cons] at h
    split
    · rename_i hlt
      rw [List.pairwise_cons, List.pairwise_cons]
      refine ⟨fun g hg => ?_, h⟩
      rcases List.mem_cons.1 hg with rfl | hg
      · exact hlt
      · exact bytes_trans' hlt (h.1 g hg)
    · rename_i hlt
      rw [List.pairwise_cons]
      refine ⟨fun g hg => ?_, insC_rise h.2 (fun g hg => hn g (by simp [hg]))⟩
      rcases insC_mem.1 hg with rfl | hg
      · rcases Go.WideAt.bytes_total g.name y.name (fun e => hn y (by simp) e.symm) with q | q
        · exact absurd q hlt
        · exact q
      · exact h.1 g hg
theorem minC_mem {F : List CE} {n : List UInt8} {g : CE} : g ∈ minC F n ↔ g ∈ F ∧ g.name ≠ n := by
  unfold minC
  rw [List.mem_filter]
  simp
theorem minC_len (F : List CE) (n : List UInt8) : (minC F n).length ≤ F.length := List.length_filter_le _ _
theorem minC_rise {F : List CE} {n : List UInt8} (h : F.Pairwise fun a b => bytesBefore a.name b.name = true) : (minC F n).Pairwise fun a b => bytesBefore a.name b.name = true := h.sublist List.filter_sublist
theorem minC_none {F : List CE} {n : List UInt8} (h : ofN F n = none) : minC F n = F := by
  unfold minC
  rw [List.filter_eq_self]
  intro e he
  have := List.find?_eq_none.1 h e he
  simpa using this
theorem putC_mem {x g : CE} {F : List CE} : g ∈ putC x F ↔ g = x ∨ (g ∈ F ∧ g.name ≠ x.name) := by
  unfold putC
  rw [insC_mem, minC_mem]
theorem putC_len (x : CE) (F : List CE) : (putC x F).length ≤ F.length + 1 := by
  unfold putC
  rw [insC_len]
  have := minC_len F x.name
  omega
theorem putC_rise {x : CE} {F : List CE} (h : F.Pairwise fun a b => bytesBefore a.name b.name = true) : (putC x F).Pairwise fun a b => bytesBefore a.name b.name = true :=
  insC_rise (minC_rise h) fun g hg => (minC_mem.1 hg).2
theorem map_tight {w : World} {k : TypeId} {b n : Nat} {F : List CE} (h : w.ownsMap Tryz.prog k tokC b n (mapC F)) : w.ownsMap Tryz.prog k tokC b F.length (mapC F) := by
  obtain ⟨es, clock, hb, Ft, hs, hD⟩ := h
  refine ⟨es, clock, hb, Ft, ?_, hD⟩
  have e : F.map entC = (es.toList.map (Go.WideElems.rg Tryz.prog k tokC)).foldr DataW.insert [] := by
    unfold mapC at hD
    injection hD
  have := congrArg List.length e
  rw [length_sorted] at this
  simp at this
  omega
/-- The store into the map, as one world's turn into another. -/
theorem upd_fun (g nn : Nat) (F : List CE) (n : ByteArray) (x : CE) (hx : x.name = n.data.toList) (hn : n.size ≤ maxLen) (hnn : nn < maxLen) :
    ∃ U : World → World, (∀ w : World, w.ownsMap Tryz.prog 9 tokC g nn (mapC F) → (Instr.mapUpdate 67 (.map (some g)) (.string n) (.pointer (some ⟨x.blk, 0, none⟩))).run Tryz.prog w = .ok () (U w)) ∧
      ∀ w : World, w.ownsMap Tryz.prog 9 tokC g nn (mapC F) → (U w).ownsMap Tryz.prog 9 tokC g (putC x F).length (mapC (putC x F)) ∧ w.grownBy (U w) (some g) := by
  have key : ∀ w : World, w.ownsMap Tryz.prog 9 tokC g nn (mapC F) → ∃ w' : World, (Instr.mapUpdate 67 (.map (some g)) (.string n) (.pointer (some ⟨x.blk, 0, none⟩))).run Tryz.prog w = .ok () w' ∧ w'.ownsMap Tryz.prog 9 tokC g (putC x F).length (mapC (putC x F)) ∧ w.grownBy w' (some g) := by
    intro w h
    obtain ⟨w', h1, h2, h3⟩ := h.update (string_keyed Tryz.underlying9) Tryz.underlying67 hnn (keyOf_string_mk Tryz.underlying9 hn) (val := .pointer (some ⟨x.blk, 0, none⟩)) (d := ceD x) (ps := []) rfl
    rw [← hx, mapC_put F x] at h2
    exact ⟨w', h1, map_tight h2, h3⟩
  classical
  refine ⟨fun w => if h : w.ownsMap Tryz.prog 9 tokC g nn (mapC F) then Classical.choose (key w h) else w, fun w h => ?_, fun w h => ?_⟩
  · simp only [dif_pos h]
    exact (Classical.choose_spec (key w h)).1
  · simp only [dif_pos h]
    exact (Classical.choose_spec (key w h)).2
theorem box_ne_map {w : World} {b g n : Nat} {t k : TypeId} {cs : Array Value} {D : DataW Unit} {R : Value → Option (DataW Unit × List MemPlace)} (h : Box w b t cs) (hm : w.ownsMap Tryz.prog k R g n D) : b ≠ g := by
  rintro rfl
  obtain ⟨es, clock, hb, _⟩ := hm
  unfold Box at h
  rw [h] at hb
  cases hb
theorem box_grown {w w' : World} {p g : Nat} {t : TypeId} {cs : Array Value} (h : Box w p t cs) (hg : w.grownBy w' (some g)) (hne : p ≠ g) : Box w' p t cs :=
  (hg.block p h.lt (fun e => hne (by injection e))).trans h
end Go.Proofs.YtlokhhjhckiloaaGreat
/- offsets: a key as a map's key. Plain words. No condition. -/
namespace Go.Proofs.YtlokhhjhckiloaaGreat.Of
open Go.RowKit Go.Maps Go.ChangeMaps Go.WideMaps
set_option linter.unusedVariables false
/-- A key: its group, its topic, which partition. -/
structure KY where
  g : ByteArray
  t : ByteArray
  i : Int
def kyV (k : KY) : Value := .agg #[.string k.g, .string k.t, .int .i64 k.i]
/-- A key as the map's data has it. -/
def kyB (k : KY) : List UInt8 := keyBytes [.string k.g.data.toList, .string k.t.data.toList, .int .i64 k.i]
structure KyOk (k : KY) : Prop where
  g : k.g.size ≤ maxLen
  t : k.t.size ≤ maxLen
  i : (Lit.int .i64 k.i).wf = true
theorem kyLaid : laidOutB Tryz.prog = true := by kernel_rfl
theorem kyRow : (99 : TypeId) < Tryz.prog.types.size := of_decide_eq_true (by kernel_rfl)
theorem kyWide : (match Tryz.prog.underlying 99 with | some (.array _ _) | some (.struct _) => true | _ => false) = true := by kernel_rfl
theorem kyDeep : Tryz.prog.keyTypeAt 3 99 = true := by kernel_rfl
set_option maxRecDepth 100000 in
theorem kyLaw : KeyLaw Tryz.prog 99 := deep_law_laid kyLaid (m := 3) (by omega) kyRow kyDeep kyWide
theorem kyKeyed : Keyed Tryz.prog 99 := Keyed.of_law kyLaw
theorem kyType : Tryz.prog.keyType 99 = true := by kernel_rfl
theorem kyCells : Tryz.prog.cellsOf 99 = 3 := by kernel_rfl
theorem kyFormed (k : KY) : (kyV k).formed Tryz.prog 99 = true := by
  unfold kyV Value.formed
  have h : ∃ fs, Tryz.prog.underlying 99 = some (.struct fs) := ⟨_, Tryz.underlying99⟩
  obtain ⟨fs, hu⟩ := h
  simp [hu, kyCells]
theorem kyLits (k : KY) (h : KyOk k) : Tryz.prog.keyLits (Tryz.prog.types.size + 1) 99 (kyV k).cells.toList = some [.string k.g.data.toList, .string k.t.data.toList, .int .i64 k.i] := by
  obtain ⟨n, hn⟩ : ∃ n, Tryz.prog.types.size = n + 2 := ⟨Tryz.prog.types.size - 2, by kernel_rfl⟩
  rw [hn]
  have c1 : Tryz.prog.cellsOf 9 = 1 := by kernel_rfl
  have c2 : Tryz.prog.cellsOf 34 = 2 := by kernel_rfl
  have c3 : Tryz.prog.cellsOf 3 = 1 := by kernel_rfl
  show Tryz.prog.keyLits (n + 3) _ [.string k.g, .string k.t, .int .i64 k.i] = _
  simp [Program.keyLits, Tryz.underlying99, Tryz.underlying34, Tryz.underlying9, Tryz.underlying3, c1, c2, c3, kyCells, h.g, h.t, h.i]
  rw [if_pos (by
    intro i hi
    match i, hi with
    | 0, _ => simp
    | 1, _ => simp)]
  rfl
theorem kyKey (k : KY) (h : KyOk k) : keyOf Tryz.prog 99 (kyV k) = some (.string (kyB k)) := by
  unfold keyOf
  rw [Tryz.underlying99]
  simp only [kyType, kyFormed, Bool.and_self, if_true, kyLits k h, Option.map_some]
  rfl
end Go.Proofs.YtlokhhjhckiloaaGreat.Of
/- offsets: its map, by keys that are structs: how it reads. No condition. -/
namespace Go.Proofs.YtlokhhjhckiloaaGreat.Of
open Go.RowKit Go.Maps Go.ChangeMaps Go.WideMaps
set_option linter.unusedVariables false
/-- An entry: its key, its offset. -/
abbrev KE := KY × Int
def tokI (v : Value) : Option (DataW Unit × List MemPlace) := match v with | .int .i64 a => some (.lit (.int .i64 a), []) | _ => none
def itD (e : KE) : DataW Unit := .lit (.int .i64 e.2)
theorem tokI_inv {v : Value} {e : KE} {ps : List MemPlace} (h : tokI v = some (itD e, ps)) : v = .int .i64 e.2 := by
  unfold tokI at h
  split at h
  · unfold itD at h
    simp at h
    rw [h.1]
  · cases h
def entK (e : KE) : Lit × DataW Unit := (.string (kyB e.1), itD e)
def mapK (F : List KE) : DataW Unit := .map (F.map entK)
/-- A table: for how many there is room, its entries by their keys. -/
structure OfIs (w : World) (p g : Nat) (room : Int) (F : List KE) : Prop where
  box : Box w p 112 #[.int .i64 room, .map (some g)]
  map : w.ownsMap Tryz.prog 99 tokI g F.length (mapK F)
  rise : F.Pairwise fun a b => bytesBefore (kyB a.1) (kyB b.1) = true
theorem map_off {w w' : World} {S : Nat → Prop} {k : TypeId} {R : Value → Option (DataW Unit × List MemPlace)} {b n : Nat} {D : DataW Unit} (h : w.ownsMap Tryz.prog k R b n D) (ho : Off S w w') (hS : ¬ S b) : w'.ownsMap Tryz.prog k R b n D := by
  have hlt := h.lt
  obtain ⟨es, clock, hb, F, hs, hD⟩ := h
  exact ⟨es, clock, (ho.block b hlt hS).trans hb, F, hs, hD⟩
theorem OfIs.off {w w' : World} {S : Nat → Prop} {p g : Nat} {room : Int} {F : List KE} (h : OfIs w p g room F) (ho : Off S w w') (hp : ¬ S p) (hm : ¬ S g) : OfIs w' p g room F :=
  ⟨h.box.off ho hp, map_off h.map ho hm, h.rise⟩
theorem OfIs.later {w w' : World} {p g : Nat} {room : Int} {F : List KE} (h : OfIs w p g room F) (hb : Below w.heap.size w w') : OfIs w' p g room F := h.off (Off.of_below (fun _ => False) hb) (fun x => x) (fun x => x)
theorem OfIs.cells {w : World} {p g : Nat} {room : Int} {F : List KE} (h : OfIs w p g room F) : w.cell? ⟨p, 0, none⟩ = some (.int .i64 room) ∧ w.cell? ⟨p, 1, none⟩ = some (.map (some g)) ∧ p < w.heap.size :=
  ⟨(h.box.cell 0).trans rfl, (h.box.cell 1).trans rfl, h.box.lt⟩
/-- The entry of a key. -/
def ofK (F : List KE) (n : List UInt8) : Option KE := F.find? fun e => kyB e.1 == n
theorem ofK_mem {F : List KE} {n : List UInt8} {e : KE} (h : ofK F n = some e) : e ∈ F ∧ (kyB e.1) = n := by
  unfold ofK at h
  exact ⟨List.mem_of_find?_eq_some h, by have := List.find?_some h; simpa using this⟩
theorem mapK_at (F : List KE) (n : List UInt8) (z : DataW Unit) : (mapK F).atKey (.string n) z = match ofK F n with | some e => itD e | none => z := by
  unfold mapK DataW.atKey ofK
  simp only [List.find?_map]
  have e : ((fun p : Lit × DataW Unit => p.1.sameKey (.string n)) ∘ entK) = fun e : KE => kyB e.1 == n := by
    funext e
    rfl
  rw [e]
  cases F.find? fun e => kyB e.1 == n <;> rfl
theorem zeroI (w : World) : (zeroValue 3).run Tryz.prog w = .ok (.int .i64 0) w := by kernel_rfl
def lookV (o : Option KE) : Value := match o with | some e => .int .i64 e.2 | none => .int .i64 0
theorem look_any {w : World} {p g : Nat} {room : Int} {F : List KE} (h : OfIs w p g room F) (k : KY) (hk : KyOk k) (c : Bool) : (Instr.lookup 110 (.map (some g)) (kyV k) c).run Tryz.prog w = .ok (if c then .tuple #[lookV (ofK F (kyB k)), .bool (ofK F (kyB k)).isSome] else lookV (ofK F (kyB k))) w := by
  have ha := fun z => mapK_at F (kyB k) z
  obtain ⟨es, clock, hb, Ft, _, hD⟩ := h.map
  rw [hD] at ha
  rcases Maps.fit_look c kyKeyed Tryz.underlying110 (zeroI _) hb Ft (kyKey k hk) with ⟨hrun, _, hat⟩ | ⟨e0, y, _, _, hrun, hRv, hat, _⟩
  · rw [hrun]
    cases hf : ofK F (kyB k) with
    | none => rfl
    | some e =>
      have h3 := ha .nil
      rw [hf, hat] at h3
      cases h3
  · rw [hrun]
    cases hf : ofK F (kyB k) with
    | none =>
      have h3 := ha .nil
      have h4 := ha (.lit (.bool true))
      rw [hf, hat] at h3 h4
      rw [h3] at h4
      cases h4
    | some e =>
      have h3 := ha .nil
      rw [hf, hat] at h3
      simp only at h3
      obtain ⟨y1, y2⟩ := y
      simp only at h3
      subst h3
      rw [tokI_inv hRv]
      rfl
theorem mapK_size (F : List KE) : Maps.size (mapK F) = F.length := by unfold mapK Maps.size; simp
theorem len_run {w : World} {p g : Nat} {room : Int} {F : List KE} (h : OfIs w p g room F) (ty : TypeId) : (Builtin.len_ #[110] ty #[.map (some g)]).run Tryz.prog w = .ok (.int .i64 (F.length : Int)) w := by
  rw [h.map.len Tryz.underlying110, mapK_size]
end Go.Proofs.YtlokhhjhckiloaaGreat.Of
/- offsets: put, delete in its map; plain words on entries in their places. No condition. -/
namespace Go.Proofs.YtlokhhjhckiloaaGreat.Of
open Go.RowKit Go.Maps Go.ChangeMaps Go.WideMaps
set_option linter.unusedVariables false
/-- One in its place by its key. -/
def insK (x : KE) : List KE → List KE
  | [] => [x]
  | y :: r => if bytesBefore (kyB x.1) (kyB y.1) then x :: y :: r else y :: insK x r
def minK (F : List KE) (n : List UInt8) : List KE := F.filter fun e => !(kyB e.1 == n)
def putK (x : KE) (F : List KE) : List KE := insK x (minK F (kyB x.1))
theorem insert_entT (x : KE) : ∀ F : List KE, DataW.insert (entK x) (F.map entK) = (insK x F).map entK
  | [] => rfl
  | y :: r => by
    have ih := insert_entT x r
    show (if (entK x).1.before (entK y).1 then _ else _) = _
    unfold insK
    have e : (entK x).1.before (entK y).1 = bytesBefore (kyB x.1) (kyB y.1) := rfl
    rw [e]
    split
    · rfl
    · simp only [List.map_cons, ih]
theorem filter_entT (n : List UInt8) (F : List KE) : (F.map entK).filter (fun q => !q.1.sameKey (.string n)) = (minK F n).map entK := by
  unfold minK
  rw [List.filter_map]
  rfl
theorem mapK_put (F : List KE) (x : KE) : (mapK F).put (.string (kyB x.1)) (itD x) = mapK (putK x F) := by
  unfold mapK DataW.put putK
  simp only
  rw [filter_entT]
  exact congrArg DataW.map (insert_entT x _)
theorem mapK_del (F : List KE) (n : List UInt8) : (mapK F).del (.string n) = mapK (minK F n) := by
  unfold mapK DataW.del
  simp only
  rw [filter_entT]
theorem insK_perm (x : KE) : ∀ F : List KE, (insK x F).Perm (x :: F)
  | [] => List.Perm.refl _
  | y :: r => by
    unfold insK
    split
    · exact List.Perm.refl _
    · exact ((insK_perm x r).cons y).trans (List.Perm.swap x y r)
theorem insK_mem {x g : KE} {F : List KE} : g ∈ insK x F ↔ g = x ∨ g ∈ F := by rw [(insK_perm x F).mem_iff, List.mem_cons]
theorem insK_len (x : KE) (F : List KE) : (insK x F).length = F.length + 1 := by rw [(insK_perm x F).length_eq, List.length_cons]
theorem bytes_trans' {a b c : List UInt8} (h : bytesBefore a b = true) (k : bytesBefore b c = true) : bytesBefore a c = true := Go.WideShapes.bytes_trans a b c h k
theorem insK_rise {x : KE} : ∀ {F : List KE}, F.Pairwise (fun a b => bytesBefore (kyB a.1) (kyB b.1) = true) → (∀ g ∈ F, (kyB g.1) ≠ (kyB x.1)) → (insK x F).Pairwise fun a b => bytesBefore (kyB a.1) (kyB b.1) = true
  | [], _, _ => List.pairwise_singleton _ _
  | y :: r, h, hn => by
    unfold insK
    rw [List.pairwise_cons] at h
    split
    · rename_i hlt
      rw [List.pairwise_cons, List.pairwise_cons]
      refine ⟨fun g hg => ?_, h⟩
      rcases List.mem_cons.1 hg with rfl | hg
      · exact hlt
      · exact bytes_trans' hlt (h.1 g hg)
    · rename_i hlt
      rw [List.pairwise_cons]
      refine ⟨fun g hg => ?_, insK_rise h.2 (fun g hg => hn g (by simp [hg]))⟩
      rcases insK_mem.1 hg with rfl | hg
      · rcases Go.WideAt.bytes_total (kyB g.1) (kyB y.1) (fun e => hn y (by simp) e.symm) with q | q
        · exact absurd q hlt
        · exact q
      · exact h.1 g hg
theorem minK_mem {F : List KE} {n : List UInt8} {g : KE} : g ∈ minK F n ↔ g ∈ F ∧ (kyB g.1) ≠ n := by
  unfold minK
  rw [List.mem_filter]
  simp
theorem minK_len (F : List KE) (n : List UInt8) : (minK F n).length ≤ F.length := List.length_filter_le _ _
theorem minK_rise {F : List KE} {n : List UInt8} (h : F.Pairwise fun a b => bytesBefore (kyB a.1) (kyB b.1) = true) : (minK F n).Pairwise fun a b => bytesBefore (kyB a.1) (kyB b.1) = true := h.sublist List.filter_sublist
theorem minK_none {F : List KE} {n : List UInt8} (h : ofK F n = none) : minK F n = F := by
  unfold minK
  rw [List.filter_eq_self]
  intro e he
  have := List.find?_eq_none.1 h e he
  simpa using this
theorem putK_mem {x g : KE} {F : List KE} : g ∈ putK x F ↔ g = x ∨ (g ∈ F ∧ (kyB g.1) ≠ (kyB x.1)) := by
  unfold putK
  rw [insK_mem, minK_mem]
theorem putK_len (x : KE) (F : List KE) : (putK x F).length ≤ F.length + 1 := by
  unfold putK
  rw [insK_len]
  have := minK_len F (kyB x.1)
  omega
theorem putK_rise {x : KE} {F : List KE} (h : F.Pairwise fun a b => bytesBefore (kyB a.1) (kyB b.1) = true) : (putK x F).Pairwise fun a b => bytesBefore (kyB a.1) (kyB b.1) = true :=
  insK_rise (minK_rise h) fun g hg => (minK_mem.1 hg).2
theorem map_tight {w : World} {k : TypeId} {b n : Nat} {F : List KE} (h : w.ownsMap Tryz.prog k tokI b n (mapK F)) : w.ownsMap Tryz.prog k tokI b F.length (mapK F) := by
  obtain ⟨es, clock, hb, Ft, hs, hD⟩ := h
  refine ⟨es, clock, hb, Ft, ?_, hD⟩
  have e : F.map entK = (es.toList.map (Go.WideElems.rg Tryz.prog k tokI)).foldr DataW.insert [] := by
    unfold mapK at hD
    injection hD
  have := congrArg List.length e
  rw [length_sorted] at this
  simp at this
  omega
theorem make_map (w : World) : (Instr.makeMap 110 none).run Tryz.prog w = .ok (.map (some w.heap.size)) (w.alloc (.map #[] 0)) := by
  first
    | rfl
    | exact run_makeMap _ _
/-- The store into the map, as one world's turn into another. -/
theorem upd_fun (g nn : Nat) (F : List KE) (x : KE) (hx : KyOk x.1) (hnn : nn < maxLen) :
    ∃ U : World → World, (∀ w : World, w.ownsMap Tryz.prog 99 tokI g nn (mapK F) → (Instr.mapUpdate 110 (.map (some g)) (kyV x.1) (.int .i64 x.2)).run Tryz.prog w = .ok () (U w)) ∧
      ∀ w : World, w.ownsMap Tryz.prog 99 tokI g nn (mapK F) → (U w).ownsMap Tryz.prog 99 tokI g (putK x F).length (mapK (putK x F)) ∧ w.grownBy (U w) (some g) := by
  have key : ∀ w : World, w.ownsMap Tryz.prog 99 tokI g nn (mapK F) → ∃ w' : World, (Instr.mapUpdate 110 (.map (some g)) (kyV x.1) (.int .i64 x.2)).run Tryz.prog w = .ok () w' ∧ w'.ownsMap Tryz.prog 99 tokI g (putK x F).length (mapK (putK x F)) ∧ w.grownBy w' (some g) := by
    intro w h
    obtain ⟨w', h1, h2, h3⟩ := h.update kyKeyed Tryz.underlying110 hnn (kyKey x.1 hx) (val := .int .i64 x.2) (d := itD x) (ps := []) rfl
    rw [mapK_put F x] at h2
    exact ⟨w', h1, map_tight h2, h3⟩
  classical
  refine ⟨fun w => if h : w.ownsMap Tryz.prog 99 tokI g nn (mapK F) then Classical.choose (key w h) else w, fun w h => ?_, fun w h => ?_⟩
  · simp only [dif_pos h]
    exact (Classical.choose_spec (key w h)).1
  · simp only [dif_pos h]
    exact (Classical.choose_spec (key w h)).2
end Go.Proofs.YtlokhhjhckiloaaGreat.Of
/- offsets: New, within, mayBe, Get, by contracts. No condition. -/
namespace Go.Proofs.YtlokhhjhckiloaaGreat.Of
open Go.RowKit Go.Maps Go.ChangeMaps Go.WideMaps
set_option linter.unusedVariables false
theorem below_drewN {B : Nat} {a w : World} (h : Below B a w) (n : Nat) : Below B a (w.drewN n) := ⟨h.os, h.tape, h.output, h.size, h.block⟩
/-- Is a number within bounds? -/
def witB (n l m : Int) : Bool := decide (l ≤ n) && decide (n ≤ m)
theorem within_c (n l m : Int) (W : World) : Calls Tryz.prog 54 #[.int .i64 n, .int .i64 l, .int .i64 m] W (fun e w' => e = .returned (.bool (witB n l m)) ∧ w' = W) := by
  unfold witB
  by_cases h : l ≤ n
  · rw [decide_eq_true h]
    go_enter Tryz.func54, Tryz.ntmps54
    go_wp2
    go_ret
    exact ⟨by simp, rfl⟩
  · rw [decide_eq_false h]
    go_enter Tryz.func54, Tryz.ntmps54
    go_wp2
    go_ret
    exact ⟨rfl, rfl⟩
/-- May a key be? -/
def mayK (k : KY) : Bool := witB k.g.size 1 100 && (witB k.t.size 1 100 && witB k.i 0 15)
theorem mayK_ok {k : KY} (h : mayK k = true) : KyOk k := by
  unfold mayK witB at h
  simp only [Bool.and_eq_true, decide_eq_true_eq] at h
  refine ⟨by unfold maxLen; omega, by unfold maxLen; omega, ?_⟩
  have h3 := h.2.2
  have e1 : IntKind.min .i64 = -9223372036854775808 := by decide
  have e2 : IntKind.max .i64 = 9223372036854775807 := by decide
  show (decide (IntKind.min .i64 ≤ k.i) && decide (k.i ≤ IntKind.max .i64)) = true
  rw [e1, e2, decide_eq_true (by omega), decide_eq_true (by omega)]
  rfl
set_option maxHeartbeats 4000000 in
set_option maxRecDepth 100000 in
theorem kmay_c (k : KY) (W : World) : Calls Tryz.prog 86 #[.agg #[.string k.g, .string k.t, .int .i64 k.i]] W (fun e w' => e = .returned (.bool (mayK k)) ∧ w' = W.alloc (.cells #[.string k.g, .string k.t, .int .i64 k.i] 99)) := by
  have cw := fun n l m w => within_c n l m w
  unfold mayK
  obtain ⟨a, ha⟩ : ∃ a, witB k.g.size 1 100 = a := ⟨_, rfl⟩
  obtain ⟨b, hb⟩ : ∃ b, witB k.t.size 1 100 = b := ⟨_, rfl⟩
  obtain ⟨c, hc⟩ : ∃ c, witB k.i 0 15 = c := ⟨_, rfl⟩
  have c1 := fun w => within_c k.g.size 1 100 w
  have c2 := fun w => within_c k.t.size 1 100 w
  have c3 := fun w => within_c k.i 0 15 w
  rw [ha] at c1 ⊢
  rw [hb] at c2 ⊢
  rw [hc] at c3 ⊢
  clear ha hb hc cw
  cases a with
  | false =>
    go_enter Tryz.func86, Tryz.ntmps86
    go_wp2_with fail
    with_reducible refine (c1 _).mono ?_
    rintro en w1 ⟨rfl, rfl⟩
    go_wp2_with fail
    go_ret
    exact ⟨rfl, rfl⟩
  | true =>
    cases b with
    | false =>
      go_enter Tryz.func86, Tryz.ntmps86
      go_wp2_with fail
      with_reducible refine (c1 _).mono ?_
      rintro en w1 ⟨rfl, rfl⟩
      go_wp2_with fail
      with_reducible refine (c2 _).mono ?_
      rintro en w2 ⟨rfl, rfl⟩
      go_wp2_with fail
      go_ret
      exact ⟨rfl, rfl⟩
    | true =>
      go_enter Tryz.func86, Tryz.ntmps86
      go_wp2_with fail
      with_reducible refine (c1 _).mono ?_
      rintro en w1 ⟨rfl, rfl⟩
      go_wp2_with fail
      with_reducible refine (c2 _).mono ?_
      rintro en w2 ⟨rfl, rfl⟩
      go_wp2_with fail
      with_reducible refine (c3 _).mono ?_
      rintro en w3 ⟨rfl, rfl⟩
      go_wp2_with fail
      go_ret
      exact ⟨by cases c <;> rfl, rfl⟩
/-- Get: how far, is it there? -/
def geR (F : List KE) (k : KY) : Int × Bool := match ofK F (kyB k) with | some e => (e.2, true) | none => (0, false)
theorem oget_nil (k : KY) (W : World) : Calls Tryz.prog 45 #[.pointer none, .agg #[.string k.g, .string k.t, .int .i64 k.i]] W (fun e w' => e = .returned (.tuple #[.int .i64 0, .bool false]) ∧ Below W.heap.size W w') := by
  go_enter Tryz.func45, Tryz.ntmps45
  go_wp2_with fail
  go_ret2
  exact ⟨rfl, (Below.refl _ _).alloc (Nat.le_refl _) _⟩
set_option maxHeartbeats 4000000 in
set_option maxRecDepth 100000 in
theorem oget_c (p g : Nat) (room : Int) (F : List KE) (k : KY) (W : World) (h : OfIs W p g room F) (hk : KyOk k) :
    Calls Tryz.prog 45 #[.pointer (some ⟨p, 0, none⟩), .agg #[.string k.g, .string k.t, .int .i64 k.i]] W (fun e w' => e = .returned (.tuple #[.int .i64 (geR F k).1, .bool (geR F k).2]) ∧ Below W.heap.size W w') := by
  have hb : Below W.heap.size W (W.alloc (.cells #[.string k.g, .string k.t, .int .i64 k.i] 99)) := (Below.refl _ _).alloc (Nat.le_refl _) _
  have h1 := h.later hb
  obtain ⟨c0, c1, cl⟩ := h1.cells
  have hl := fun n : Nat => look_any (h1.later (below_drewN (Below.refl _ (W.alloc (.cells #[.string k.g, .string k.t, .int .i64 k.i] 99))) n)) k hk true
  have HB := Lib.hid hb
  have hbx := Box.new W 99 #[.string k.g, .string k.t, .int .i64 k.i]
  have b0 := (hbx.cell 0).trans (show _ = some (Value.string k.g) from rfl)
  have b1 := (hbx.cell 1).trans (show _ = some (Value.string k.t) from rfl)
  have b2 := (hbx.cell 2).trans (show _ = some (Value.int .i64 k.i) from rfl)
  unfold kyV at hl
  unfold geR
  have hrun : ∃ v ok, (∀ n : Nat, (Instr.lookup 110 (.map (some g)) (.agg #[.string k.g, .string k.t, .int .i64 k.i]) true).run Tryz.prog ((W.alloc (.cells #[.string k.g, .string k.t, .int .i64 k.i] 99)).drewN n) = .ok (.tuple #[.int .i64 v, .bool ok]) ((W.alloc (.cells #[.string k.g, .string k.t, .int .i64 k.i] 99)).drewN n)) ∧ (match ofK F (kyB k) with | some e => (e.2, true) | none => ((0 : Int), false)) = (v, ok) := by
    cases hf : ofK F (kyB k) with
    | none => rw [hf] at hl; exact ⟨0, false, hl, rfl⟩
    | some e => rw [hf] at hl; exact ⟨e.2, true, hl, rfl⟩
  obtain ⟨v, ok, hr, hv⟩ := hrun
  rw [hv]
  clear hv hl h h1 hb hbx
  go_enter Tryz.func45, Tryz.ntmps45
  go_wp2_with fail
  go_quiet (fail)
  go_wp2_with fail
  go_ret2
  exact ⟨rfl, below_drewN HB.out _⟩
end Go.Proofs.YtlokhhjhckiloaaGreat.Of
/- offsets: New, copied, by contracts. No condition but that the key may be. -/
namespace Go.Proofs.YtlokhhjhckiloaaGreat.Of
open Go.RowKit Go.Maps Go.ChangeMaps Go.WideMaps
set_option linter.unusedVariables false
theorem ky3 {w : World} {b : Nat} {v0 v1 v2 : Value} {t : TypeId} (h : Box w b t #[v0, v1, v2]) : w.cell? ⟨b, 0, none⟩ = some v0 ∧ w.cell? ⟨b, 1, none⟩ = some v1 ∧ w.cell? ⟨b, 2, none⟩ = some v2 ∧ b < w.heap.size ∧ w.frozen? ⟨b, 0, none⟩ = false ∧ w.frozen? ⟨b, 1, none⟩ = false ∧ w.frozen? ⟨b, 2, none⟩ = false :=
  ⟨(h.cell 0).trans rfl, (h.cell 1).trans rfl, (h.cell 2).trans rfl, h.lt, h.frozen 0, h.frozen 1, h.frozen 2⟩
theorem key_result {w : World} (g : Nat) {v0 v1 v2 : Value} (h : Box w g 99 #[v0, v1, v2]) (tmps : Array Value) (ht : (tmps[2]?).getD undef = .pointer (some ⟨g, 0, none⟩)) :
    (results Tryz.f87 tmps).run Tryz.prog w = .ok (.agg #[v0, v1, v2]) w := by
  have c0 := (h.cell 0).trans (show _ = some v0 from rfl)
  have c1 := (h.cell 1).trans (show _ = some v1 from rfl)
  have c2 := (h.cell 2).trans (show _ = some v2 from rfl)
  simp [results, Tryz.results87, go_sem, ht, c0, c1, c2]
set_option maxHeartbeats 4000000 in
set_option maxRecDepth 100000 in
theorem copied_c (k : KY) (W : World) (hg : k.g.size ≤ 281474976710656) (ht : k.t.size ≤ 281474976710656) :
    Calls Tryz.prog 87 #[.agg #[.string k.g, .string k.t, .int .i64 k.i]] W (Good W (.agg #[.string k.g, .string k.t, .int .i64 k.i])) := by
  have c1 := fun w => clone_c k.g w hg
  have c2 := fun w => clone_c k.t w ht
  have hb1 := Box.new W 99 #[.string k.g, .string k.t, .int .i64 k.i]
  have hB1 : Below W.heap.size W (W.alloc (.cells #[.string k.g, .string k.t, .int .i64 k.i] 99)) := (Below.refl _ _).alloc (Nat.le_refl _) _
  have hb2 := Box.new (W.alloc (.cells #[.string k.g, .string k.t, .int .i64 k.i] 99)) 99 #[.string ⟨#[]⟩, .string ⟨#[]⟩, .int .i64 0]
  rw [World.size_alloc] at hb2
  have hA2 : Below (W.alloc (.cells #[.string k.g, .string k.t, .int .i64 k.i] 99)).heap.size (W.alloc (.cells #[.string k.g, .string k.t, .int .i64 k.i] 99)) ((W.alloc (.cells #[.string k.g, .string k.t, .int .i64 k.i] 99)).alloc (.cells #[.string ⟨#[]⟩, .string ⟨#[]⟩, .int .i64 0] 99)) := (Below.refl _ _).alloc (Nat.le_refl _) _
  have H1 := Lib.hid (hb1.later hA2)
  have H2 := Lib.hid hb2
  have HB := Lib.hid (hB1.trans (hA2.mono (by simp)))
  obtain ⟨y0, y1, y2, yl, g0, g1, g2⟩ := ky3 (hb1.later hA2)
  clear hb1 hb2 hB1 hA2 hg ht
  go_enter Tryz.func87, Tryz.ntmps87
  go_wp2_with fail
  with_reducible refine (c1 _).mono ?_
  rintro en w1 ⟨rfl, hb⟩
  have hx1 := H1.out.later hb
  have hx2 := H2.out.later hb
  have hB := HB.out.trans (hb.mono HB.out.size)
  have HX1 := Lib.hid (hx1.set 0 (.string k.g))
  have HX2 := Lib.hid (hx2.far (p := ⟨W.heap.size, 0, none⟩) (by show W.heap.size + 1 ≠ W.heap.size; omega) (.string k.g))
  have HB1 := Lib.hid (hB.trans ((Off.one w1 ⟨W.heap.size, 0, none⟩ (.string k.g)).below hB.size (fun k hk => by have e : k = W.heap.size := hk; omega)))
  clear y0 y1 y2 yl g0 g1 g2 H1 H2 HB hb hx2 hB
  obtain ⟨y0, y1, y2, yl, g0, g1, g2⟩ := ky3 hx1
  clear hx1
  go_wp2_with fail
  with_reducible refine (c2 _).mono ?_
  generalize (w1.setCell ⟨W.heap.size, 0, none⟩ (.string k.g)) = w1' at *
  rintro en w2 ⟨rfl, hb⟩
  have hx1 := HX1.out.later hb
  have hx2 := HX2.out.later hb
  have hB := HB1.out.trans (hb.mono HB1.out.size)
  have HX3 := Lib.hid (hx1.set 1 (.string k.t))
  have HX4 := Lib.hid (hx2.far (p := ⟨W.heap.size, 1, none⟩) (by show W.heap.size + 1 ≠ W.heap.size; omega) (.string k.t))
  have HB2 := Lib.hid (hB.trans ((Off.one w2 ⟨W.heap.size, 1, none⟩ (.string k.t)).below hB.size (fun k hk => by have e : k = W.heap.size := hk; omega)))
  clear y0 y1 y2 yl g0 g1 g2 HX1 HX2 HB1 hb hx2 hB
  obtain ⟨y0, y1, y2, yl, g0, g1, g2⟩ := ky3 hx1
  clear hx1
  obtain ⟨z0, z1, z2, zl, _, _, _⟩ := ky3 HX3.out
  obtain ⟨u0, u1, u2, ul, f0, f1, f2⟩ := ky3 HX4.out
  go_wp2_with fail
  have hfin : Box ((((w2.setCell ⟨W.heap.size, 1, none⟩ (.string k.t)).setCell ⟨W.heap.size + 1, 0, none⟩ (.string k.g)).setCell ⟨W.heap.size + 1, 1, none⟩ (.string k.t)).setCell ⟨W.heap.size + 1, 2, none⟩ (.int .i64 k.i)) (W.heap.size + 1) 99 #[.string k.g, .string k.t, .int .i64 k.i] := ((HX4.out.set 0 (.string k.g)).set 1 (.string k.t)).set 2 (.int .i64 k.i)
  refine bodyPost_ret (v := .agg #[.string k.g, .string k.t, .int .i64 k.i]) ?_ rfl ?_
  · exact key_result _ hfin _ rfl
  clear hfin
  refine ⟨rfl, ?_⟩
  generalize (w2.setCell ⟨W.heap.size, 1, none⟩ (.string k.t)) = w3 at *
  have hz := HB2.out.size
  have o1 : Off (fun k => k = W.heap.size + 1) w3 (w3.setCell ⟨W.heap.size + 1, 0, none⟩ (.string k.g)) := Off.one w3 ⟨W.heap.size + 1, 0, none⟩ _
  have o2 := o1.set (p := ⟨W.heap.size + 1, 1, none⟩) (.inl (show W.heap.size + 1 = W.heap.size + 1 from rfl)) (.string k.t)
  have o3 := o2.set (p := ⟨W.heap.size + 1, 2, none⟩) (.inl (show W.heap.size + 1 = W.heap.size + 1 from rfl)) (.int .i64 k.i)
  exact HB2.out.trans (o3.below hz (fun k hk => by have e : k = W.heap.size + 1 := hk; omega))
theorem new_no (n : Int) (h : witB n 1 10000 = false) (W : World) : Calls Tryz.prog 24 #[.int .i64 n] W (fun e w' => e = .returned (.tuple #[.pointer none, .int .i64 1]) ∧ w' = W) := by
  have cw := fun w => within_c n 1 10000 w
  rw [h] at cw
  clear h
  go_enter Tryz.func24, Tryz.ntmps24
  go_wp2_with fail
  with_reducible refine (cw _).mono ?_
  rintro en w1 ⟨rfl, rfl⟩
  go_wp2_with fail
  go_ret2
  exact ⟨rfl, rfl⟩
theorem new_ok (n : Int) (h : witB n 1 10000 = true) (W : World) : Calls Tryz.prog 24 #[.int .i64 n] W (fun e w' => e = .returned (.tuple #[.pointer (some ⟨W.heap.size + 1, 0, none⟩), .int .i64 0]) ∧ w' = (W.alloc (.map #[] 0)).alloc (.cells #[.int .i64 n, .map (some W.heap.size)] 112)) := by
  have cw := fun w => within_c n 1 10000 w
  rw [h] at cw
  clear h
  have mk := fun w => make_map w
  go_enter Tryz.func24, Tryz.ntmps24
  go_wp2_with fail
  with_reducible refine (cw _).mono ?_
  rintro en w1 ⟨rfl, rfl⟩
  go_wp2_with fail
  go_ret2
  exact ⟨by first | rfl | simp, rfl⟩
end Go.Proofs.YtlokhhjhckiloaaGreat.Of
/- Steps of a drawn region, one at a time: plain words. No condition. -/
namespace Go.Proofs.YtlokhhjhckiloaaGreat
open Go.RowKit
set_option linter.unusedVariables false
section
variable {P : Program} {md : Region.Mode} {l : List Oper} {Q : Exit → Act → World → Prop} {S : World → Prop}
theorem takeW {i : Nat} {oi : Oper} {v : Value} {fuel : Nat} {listed : Array Bool} {a : Act} {w : World} (hi : l[i]? = some oi)
    (hs : Region.noSelect l.toArray = true) (hf : Region.free md l.toArray listed i = true) (hr : (Region.ready md l.toArray listed).contains i = true)
    (hQ : ∀ c a w, Q (.panic c) (a.put oi.dst v) w → Q (.panic c) a w) (hw : Region.wanted oi (yielded l.toArray a.tmps) = true) (hS : S w) (hy : ∀ w, S w → (execOp a.eval oi).run P w = .ok (.value v) w)
    (h : wpAnyH P md l.toArray Q S fuel (listed.setIfInBounds i true) (a.put oi.dst v) w) : wpAnyH P md l.toArray Q S (fuel + 1) listed a w :=
  wpAnyH_take (List.getElem?_toArray.trans hi) hs hf hr hQ (.inl ⟨hw, hy⟩) hS h
theorem takeU {i : Nat} {oi : Oper} {fuel : Nat} {listed : Array Bool} {a : Act} {w : World} (hi : l[i]? = some oi)
    (hs : Region.noSelect l.toArray = true) (hf : Region.free md l.toArray listed i = true) (hr : (Region.ready md l.toArray listed).contains i = true)
    (hQ : ∀ c a w, Q (.panic c) (a.put oi.dst undef) w → Q (.panic c) a w) (hw : Region.wanted oi (yielded l.toArray a.tmps) = false) (hS : S w)
    (h : wpAnyH P md l.toArray Q S fuel (listed.setIfInBounds i true) (a.put oi.dst undef) w) : wpAnyH P md l.toArray Q S (fuel + 1) listed a w :=
  wpAnyH_take (List.getElem?_toArray.trans hi) hs hf hr hQ (.inr ⟨hw, rfl⟩) hS h
theorem consL {i : Nat} {o : Oper} {rs : List Nat} {fuel : Nat} {listed : Array Bool} {a : Act} {w : World} (hi : l[i]? = some o) (hw : Region.wanted o (yielded l.toArray a.tmps) = true)
    (h : ∀ K' : Act → World → Prop, Shut (∀ a w, S w → (S w → wpAnyH P md l.toArray Q S fuel (listed.setIfInBounds i true) a w) → K' a w) → Oper.wp P o a w K' Q)
    (hs : AllReadyH P md l.toArray Q S fuel listed a w rs) : AllReadyH P md l.toArray Q S fuel listed a w (i :: rs) :=
  AllReadyH.cons (List.getElem?_toArray.trans hi) (fun K' hK => by rw [if_pos hw]; exact h K' hK) hs
end
end Go.Proofs.YtlokhhjhckiloaaGreat
/- offsets: Commit, by a contract. No condition but that there are not too many. -/
namespace Go.Proofs.YtlokhhjhckiloaaGreat.Of
open Go.RowKit Go.Maps Go.ChangeMaps Go.WideMaps
set_option linter.unusedVariables false
/-- Commit: the error; the entries behind it. -/
def coR (room : Int) (F : List KE) (k : KY) (a : Int) : Int :=
  if mayK k && witB a 0 1099511627776 then (if (ofK F (kyB k)).isSome || decide ((F.length : Int) < room) then 0 else 5) else 1
def coS (room : Int) (F : List KE) (k : KY) (a : Int) : List KE := if coR room F k a = 0 then putK (k, a) F else F
theorem box_ne_map {w : World} {b g n : Nat} {t k : TypeId} {cs : Array Value} {D : DataW Unit} {R : Value → Option (DataW Unit × List MemPlace)} (h : Box w b t cs) (hm : w.ownsMap Tryz.prog k R g n D) : b ≠ g := by
  rintro rfl
  obtain ⟨es, clock, hb, _⟩ := hm
  unfold Box at h
  rw [h] at hb
  injection hb with hb
  cases hb
/-- While a commit goes on: the table, the key's own box. -/
structure CmI (W : World) (p g : Nat) (room : Int) (F : List KE) (o : Nat) (k : KY) (w : World) : Prop where
  is : OfIs w p g room F
  box : Box w o 99 #[.string k.g, .string k.t, .int .i64 k.i]
  off : Off (fun i => i = g) W w
theorem CmI.later {W w w' : World} {p g o : Nat} {room : Int} {F : List KE} {k : KY} (h : CmI W p g room F o k w) (hb : Below w.heap.size w w') : CmI W p g room F o k w' := ⟨h.is.later hb, h.box.later hb, h.off.later hb⟩
theorem CmI.drew {W w : World} {p g o : Nat} {room : Int} {F : List KE} {k : KY} (h : CmI W p g room F o k w) : CmI W p g room F o k w.drew := h.later (Below.refl _ _).drew
theorem CmI.drewN {W w : World} {p g o : Nat} {room : Int} {F : List KE} {k : KY} (h : CmI W p g room F o k w) (n : Nat) : CmI W p g room F o k (w.drewN n) := h.later (below_drewN (Below.refl _ _) n)
theorem CmI.facts {W w : World} {p g o : Nat} {room : Int} {F : List KE} {k : KY} (h : CmI W p g room F o k w) :
    w.cell? ⟨p, 1, none⟩ = some (.map (some g)) ∧ w.cell? ⟨o, 0, none⟩ = some (.string k.g) ∧ w.cell? ⟨o, 1, none⟩ = some (.string k.t) ∧ w.cell? ⟨o, 2, none⟩ = some (.int .i64 k.i) :=
  ⟨h.is.cells.2.1, (h.box.cell 0).trans rfl, (h.box.cell 1).trans rfl, (h.box.cell 2).trans rfl⟩
theorem CmI.put {W w w' : World} {p g o : Nat} {room : Int} {F : List KE} {k : KY} {x : KE} (h : CmI W p g room F o k w) (hm : w'.ownsMap Tryz.prog 99 tokI g (putK x F).length (mapK (putK x F))) (hg : w.grownBy w' (some g)) : CmI W p g room (putK x F) o k w' := by
  have n1 := box_ne_map h.is.box h.is.map
  have n2 := box_ne_map h.box h.is.map
  refine ⟨⟨(hg.block p h.is.box.lt (fun e => n1 (Option.some.inj e))).trans h.is.box, hm, putK_rise h.is.rise⟩, (hg.block o h.box.lt (fun e => n2 (Option.some.inj e))).trans h.box, h.off.grown hg (fun i hi _ => by injection hi with hi; exact hi.symm)⟩
def GotCm (W : World) (p g : Nat) (room : Int) (F : List KE) (e : Int) (en : Ending) (w' : World) : Prop := en = .returned (.int .i64 e) ∧ OfIs w' p g room F ∧ Off (fun i => i = g) W w'
theorem commit_nil (k : KY) (a : Int) (W : World) : Calls Tryz.prog 51 #[.pointer none, .agg #[.string k.g, .string k.t, .int .i64 k.i], .int .i64 a] W (fun e w' => e = .returned (.int .i64 1) ∧ Below W.heap.size W w') := by
  go_enter Tryz.func51, Tryz.ntmps51
  go_wp2_with fail
  go_ret
  exact ⟨rfl, (Below.refl _ _).alloc (Nat.le_refl _) _⟩
set_option maxHeartbeats 16000000 in
set_option maxRecDepth 100000 in
theorem commit_c (p g : Nat) (room : Int) (F : List KE) (k : KY) (a : Int) (W : World) (h : OfIs W p g room F) (hl : F.length ≤ 1000000) :
    Calls Tryz.prog 51 #[.pointer (some ⟨p, 0, none⟩), .agg #[.string k.g, .string k.t, .int .i64 k.i], .int .i64 a] W (GotCm W p g room (coS room F k a) (coR room F k a)) := by
  have hQ1 : CmI W p g room F W.heap.size k (W.alloc (.cells #[.string k.g, .string k.t, .int .i64 k.i] 99)) := ⟨h.later ((Below.refl _ _).alloc (Nat.le_refl _) _), Box.new _ _ _, (Off.refl _ _).alloc _⟩
  have HQ1 := Lib.hid hQ1
  obtain ⟨q1, b0, b1, b2⟩ := hQ1.facts
  have cm := fun w => kmay_c k w
  have cw := fun w => within_c a 0 1099511627776 w
  obtain ⟨r, hr⟩ : ∃ r, coR room F k a = r := ⟨_, rfl⟩
  have hcs : coS room F k a = if r = 0 then putK (k, a) F else F := by unfold coS; rw [hr]
  rw [hcs, hr]
  clear hcs
  unfold coR at hr
  cases hm : mayK k with
  | false =>
    rw [hm] at hr cm
    simp only [Bool.false_and, Bool.false_eq_true, if_false] at hr
    subst hr
    rw [if_neg (by decide)]
    clear hm hQ1 h
    go_enter Tryz.func51, Tryz.ntmps51
    go_wp2_with fail
    with_reducible refine (cm _).mono ?_
    rintro en w1 ⟨rfl, rfl⟩
    go_wp2_with fail
    go_ret
    have := HQ1.out.later ((Below.refl (W.alloc (.cells #[.string k.g, .string k.t, .int .i64 k.i] 99)).heap.size (W.alloc (.cells #[.string k.g, .string k.t, .int .i64 k.i] 99))).alloc (Nat.le_refl _) (.cells #[.string k.g, .string k.t, .int .i64 k.i] 99))
    exact ⟨rfl, this.is, this.off⟩
  | true =>
    have hok := mayK_ok hm
    have HKS : Hid (k.g.size ≤ 100 ∧ k.t.size ≤ 100) := Lib.hid (by unfold mayK witB at hm; simp only [Bool.and_eq_true, decide_eq_true_eq] at hm; omega)
    rw [hm] at hr cm
    cases hw : witB a 0 1099511627776 with
    | false =>
      rw [hw] at hr cw
      simp only [Bool.and_false, Bool.false_eq_true, if_false] at hr
      subst hr
      rw [if_neg (by decide)]
      clear hm hw hQ1 h hok
      go_enter Tryz.func51, Tryz.ntmps51
      go_wp2_with fail
      with_reducible refine (cm _).mono ?_
      rintro en w1 ⟨rfl, rfl⟩
      go_wp2_with fail
      with_reducible refine (cw _).mono ?_
      rintro en w1 ⟨rfl, rfl⟩
      go_wp2_with fail
      go_ret
      have := HQ1.out.later ((Below.refl (W.alloc (.cells #[.string k.g, .string k.t, .int .i64 k.i] 99)).heap.size (W.alloc (.cells #[.string k.g, .string k.t, .int .i64 k.i] 99))).alloc (Nat.le_refl _) (.cells #[.string k.g, .string k.t, .int .i64 k.i] 99))
      exact ⟨rfl, this.is, this.off⟩
    | true =>
      rw [hw] at hr cw
      simp only [Bool.and_self, if_true] at hr
      clear hm hw
      have hQ2 := hQ1.later ((Below.refl (W.alloc (.cells #[.string k.g, .string k.t, .int .i64 k.i] 99)).heap.size (W.alloc (.cells #[.string k.g, .string k.t, .int .i64 k.i] 99))).alloc (Nat.le_refl _) (.cells #[.string k.g, .string k.t, .int .i64 k.i] 99))
      have HQ2 := Lib.hid hQ2
      have hl2 := fun n : Nat => look_any (hQ2.drewN n).is k hok true
      have hln := fun n : Nat => fun ty => len_run (hQ2.drewN n).is ty
      obtain ⟨q0, q1', _⟩ := hQ2.is.cells
      obtain ⟨_, d0, d1, d2⟩ := hQ2.facts
      unfold kyV at hl2
      cases hf : ofK F (kyB k) with
      | none =>
        rw [hf] at hr hl2
        simp only [Option.isSome_none, Bool.false_or, decide_eq_true_eq] at hr
        unfold lookV at hl2
        simp only [if_true, Option.isSome_none] at hl2
        by_cases hroom : (F.length : Int) < room
        · rw [if_pos hroom] at hr
          subst hr
          rw [if_pos rfl]
          have hg1 : decide (room ≤ (F.length : Int)) = false := decide_eq_false (by omega)
          clear hf hQ1 h
          go_enter Tryz.func51, Tryz.ntmps51
          go_wp2_with fail
          with_reducible refine (cm _).mono ?_
          rintro en w1 ⟨rfl, rfl⟩
          go_wp2_with fail
          with_reducible refine (cw _).mono ?_
          rintro en w1 ⟨rfl, rfl⟩
          go_wp2_with fail
          go_quiet (fail)
          have HQ3 := Lib.hid (HQ2.out.drewN nq)
          generalize ((W.alloc (.cells #[.string k.g, .string k.t, .int .i64 k.i] 99)).alloc (.cells #[.string k.g, .string k.t, .int .i64 k.i] 99)).drewN nq = wa at *
          clear hl2 hln q0 q1' d0 d1 d2 HQ2 hQ2
          obtain ⟨q0, q1', _⟩ := HQ3.out.is.cells
          have hln := fun n : Nat => fun ty => len_run (HQ3.out.drewN n).is ty
          go_wp2_with fail
          go_quiet (fail)
          have HQ := Lib.hid (HQ3.out.drewN nq)
          generalize wa.drewN nq = wr at *
          clear hln q0 q1' HQ3
          have cc := fun w => copied_c k w (by have := HKS.out.1; omega) (by have := HKS.out.2; omega)
          obtain ⟨U, hU, hV⟩ := upd_fun g F.length F (k, a) hok (by unfold maxLen; omega)
          generalize W.heap.size = o at *
          have hS0 := HQ.out.drew.facts
          go_wp2_with fail
          refine wp_region_held_drew (S := (fun w => w.cell? ⟨p, 1, none⟩ = some (.map (some g)) ∧ w.cell? ⟨o, 0, none⟩ = some (.string k.g) ∧ w.cell? ⟨o, 1, none⟩ = some (.string k.t) ∧ w.cell? ⟨o, 2, none⟩ = some (.int .i64 k.i))) (by kernel_rfl) hS0 (fun hHeld => ?_)
          refine takeW (i := 0) (v := ?v1001) rfl (by kernel_rfl) (by kernel_rfl) (by kernel_rfl) (fun _ _ _ h => h) (by kernel_rfl) hHeld ?hy1001 ?rest1001
          case hy1001 => (intro w hSw; (try dsimp only at hSw); go_simp; (try with_reducible rfl))
          try simp only [Act.put, List.setIfInBounds_toArray, List.set_cons_zero, List.set_cons_succ]
          refine takeW (i := 1) (v := ?v1002) rfl (by kernel_rfl) (by kernel_rfl) (by kernel_rfl) (fun _ _ _ h => h) (by kernel_rfl) hHeld ?hy1002 ?rest1002
          case hy1002 => (intro w hSw; (try dsimp only at hSw); go_simp; (try with_reducible rfl))
          try simp only [Act.put, List.setIfInBounds_toArray, List.set_cons_zero, List.set_cons_succ]
          refine takeW (i := 2) (v := ?v1003) rfl (by kernel_rfl) (by kernel_rfl) (by kernel_rfl) (fun _ _ _ h => h) (by kernel_rfl) hHeld ?hy1003 ?rest1003
          case hy1003 => (intro w hSw; (try dsimp only at hSw); go_simp; (try with_reducible rfl))
          try simp only [Act.put, List.setIfInBounds_toArray, List.set_cons_zero, List.set_cons_succ]
          refine takeW (i := 3) (v := ?v1004) rfl (by kernel_rfl) (by kernel_rfl) (by kernel_rfl) (fun _ _ _ h => h) (by kernel_rfl) hHeld ?hy1004 ?rest1004
          case hy1004 => (intro w hSw; (try dsimp only at hSw); go_simp; (try with_reducible rfl))
          try simp only [Act.put, List.setIfInBounds_toArray, List.set_cons_zero, List.set_cons_succ]
          refine takeW (i := 4) (v := ?v1005) rfl (by kernel_rfl) (by kernel_rfl) (by kernel_rfl) (fun _ _ _ h => h) (by kernel_rfl) hHeld ?hy1005 ?rest1005
          case hy1005 => (intro w hSw; (try dsimp only at hSw); go_simp; (try with_reducible rfl))
          try simp only [Act.put, List.setIfInBounds_toArray, List.set_cons_zero, List.set_cons_succ]
          refine takeW (i := 6) (v := ?v1006) rfl (by kernel_rfl) (by kernel_rfl) (by kernel_rfl) (fun _ _ _ h => h) (by kernel_rfl) hHeld ?hy1006 ?rest1006
          case hy1006 => (intro w hSw; (try dsimp only at hSw); go_simp; (try with_reducible rfl))
          try simp only [Act.put, List.setIfInBounds_toArray, List.set_cons_zero, List.set_cons_succ]
          refine wpAnyH_ready (rs := [5]) (by kernel_rfl) (by simp) ?_
          refine consL rfl (by kernel_rfl) (fun K hK => ?_) AllReadyH.nil
          go_simp
          with_reducible refine (cc _).mono ?_
          rintro en w4 ⟨rfl, hb4⟩
          have HQ4 := Lib.hid (HQ.out.drew.later hb4)
          refine hK.out _ _ (HQ4.out.facts) (fun hHeld => ?_)
          clear hK K
          try simp only [Act.put, List.setIfInBounds_toArray, List.set_cons_zero, List.set_cons_succ]
          refine wpAnyH_ready (rs := [7]) (by kernel_rfl) (by simp) ?_
          refine consL rfl (by kernel_rfl) (fun K hK => ?_) AllReadyH.nil
          have hU1 := hU _ HQ4.out.is.map
          unfold kyV at hU1
          go_simp
          have HQ5 := Lib.hid (HQ4.out.put (hV _ HQ4.out.is.map).1 (hV _ HQ4.out.is.map).2)
          refine hK.out _ _ (HQ5.out.facts) (fun hHeld => ?_)
          clear hK K
          try simp only [Act.put, List.setIfInBounds_toArray, List.set_cons_zero, List.set_cons_succ]
          refine wpAnyH_done (by kernel_rfl) ?_ _
          go_wp2_with fail
          go_ret
          exact ⟨rfl, HQ5.out.is, HQ5.out.off⟩
        · rw [if_neg hroom] at hr
          subst hr
          rw [if_neg (by decide)]
          have hg1 : room ≤ (F.length : Int) := by omega
          clear hf hQ1 hQ2 h hroom
          go_enter Tryz.func51, Tryz.ntmps51
          go_wp2_with fail
          with_reducible refine (cm _).mono ?_
          rintro en w1 ⟨rfl, rfl⟩
          go_wp2_with fail
          with_reducible refine (cw _).mono ?_
          rintro en w1 ⟨rfl, rfl⟩
          go_wp2_with fail
          go_quiet (fail)
          have HQ3 := Lib.hid (HQ2.out.drewN nq)
          generalize ((W.alloc (.cells #[.string k.g, .string k.t, .int .i64 k.i] 99)).alloc (.cells #[.string k.g, .string k.t, .int .i64 k.i] 99)).drewN nq = wa at *
          clear hl2 hln q0 q1' d0 d1 d2 HQ2
          obtain ⟨q0, q1', _⟩ := HQ3.out.is.cells
          have hln := fun n : Nat => fun ty => len_run (HQ3.out.drewN n).is ty
          go_wp2_with fail
          go_quiet (fail)
          have HQ4 := Lib.hid (HQ3.out.drewN nq)
          go_wp2_with fail
          go_ret
          exact ⟨rfl, HQ4.out.is, HQ4.out.off⟩
      | some e0 =>
        rw [hf] at hr hl2
        simp only [Option.isSome_some, Bool.true_or, if_true] at hr
        subst hr
        rw [if_pos rfl]
        unfold lookV at hl2
        simp only [if_true, Option.isSome_some] at hl2
        clear hf hQ1 h
        go_enter Tryz.func51, Tryz.ntmps51
        go_wp2_with fail
        with_reducible refine (cm _).mono ?_
        rintro en w1 ⟨rfl, rfl⟩
        go_wp2_with fail
        with_reducible refine (cw _).mono ?_
        rintro en w1 ⟨rfl, rfl⟩
        go_wp2_with fail
        go_quiet (fail)
        have HQ3 := Lib.hid (HQ2.out.drewN nq)
        generalize ((W.alloc (.cells #[.string k.g, .string k.t, .int .i64 k.i] 99)).alloc (.cells #[.string k.g, .string k.t, .int .i64 k.i] 99)).drewN nq = wa at *
        clear hl2 hln q0 q1' d0 d1 d2 HQ2 hQ2
        obtain ⟨q0, q1', _⟩ := HQ3.out.is.cells
        have hln := fun n : Nat => fun ty => len_run (HQ3.out.drewN n).is ty
        go_wp2_with fail
        go_quiet (fail)
        have HQ := Lib.hid (HQ3.out.drewN nq)
        generalize wa.drewN nq = wr at *
        clear hln q0 q1' HQ3
        have cc := fun w => copied_c k w (by have := HKS.out.1; omega) (by have := HKS.out.2; omega)
        obtain ⟨U, hU, hV⟩ := upd_fun g F.length F (k, a) hok (by unfold maxLen; omega)
        generalize W.heap.size = o at *
        have hS0 := HQ.out.drew.facts
        go_wp2_with fail
        refine wp_region_held_drew (S := (fun w => w.cell? ⟨p, 1, none⟩ = some (.map (some g)) ∧ w.cell? ⟨o, 0, none⟩ = some (.string k.g) ∧ w.cell? ⟨o, 1, none⟩ = some (.string k.t) ∧ w.cell? ⟨o, 2, none⟩ = some (.int .i64 k.i))) (by kernel_rfl) hS0 (fun hHeld => ?_)
        refine takeW (i := 0) (v := ?v801) rfl (by kernel_rfl) (by kernel_rfl) (by kernel_rfl) (fun _ _ _ h => h) (by kernel_rfl) hHeld ?hy801 ?rest801
        case hy801 => (intro w hSw; (try dsimp only at hSw); go_simp; (try with_reducible rfl))
        try simp only [Act.put, List.setIfInBounds_toArray, List.set_cons_zero, List.set_cons_succ]
        refine takeW (i := 1) (v := ?v802) rfl (by kernel_rfl) (by kernel_rfl) (by kernel_rfl) (fun _ _ _ h => h) (by kernel_rfl) hHeld ?hy802 ?rest802
        case hy802 => (intro w hSw; (try dsimp only at hSw); go_simp; (try with_reducible rfl))
        try simp only [Act.put, List.setIfInBounds_toArray, List.set_cons_zero, List.set_cons_succ]
        refine takeW (i := 2) (v := ?v803) rfl (by kernel_rfl) (by kernel_rfl) (by kernel_rfl) (fun _ _ _ h => h) (by kernel_rfl) hHeld ?hy803 ?rest803
        case hy803 => (intro w hSw; (try dsimp only at hSw); go_simp; (try with_reducible rfl))
        try simp only [Act.put, List.setIfInBounds_toArray, List.set_cons_zero, List.set_cons_succ]
        refine takeW (i := 3) (v := ?v804) rfl (by kernel_rfl) (by kernel_rfl) (by kernel_rfl) (fun _ _ _ h => h) (by kernel_rfl) hHeld ?hy804 ?rest804
        case hy804 => (intro w hSw; (try dsimp only at hSw); go_simp; (try with_reducible rfl))
        try simp only [Act.put, List.setIfInBounds_toArray, List.set_cons_zero, List.set_cons_succ]
        refine takeW (i := 4) (v := ?v805) rfl (by kernel_rfl) (by kernel_rfl) (by kernel_rfl) (fun _ _ _ h => h) (by kernel_rfl) hHeld ?hy805 ?rest805
        case hy805 => (intro w hSw; (try dsimp only at hSw); go_simp; (try with_reducible rfl))
        try simp only [Act.put, List.setIfInBounds_toArray, List.set_cons_zero, List.set_cons_succ]
        refine takeW (i := 6) (v := ?v806) rfl (by kernel_rfl) (by kernel_rfl) (by kernel_rfl) (fun _ _ _ h => h) (by kernel_rfl) hHeld ?hy806 ?rest806
        case hy806 => (intro w hSw; (try dsimp only at hSw); go_simp; (try with_reducible rfl))
        try simp only [Act.put, List.setIfInBounds_toArray, List.set_cons_zero, List.set_cons_succ]
        refine wpAnyH_ready (rs := [5]) (by kernel_rfl) (by simp) ?_
        refine consL rfl (by kernel_rfl) (fun K hK => ?_) AllReadyH.nil
        go_simp
        with_reducible refine (cc _).mono ?_
        rintro en w4 ⟨rfl, hb4⟩
        have HQ4 := Lib.hid (HQ.out.drew.later hb4)
        refine hK.out _ _ (HQ4.out.facts) (fun hHeld => ?_)
        clear hK K
        try simp only [Act.put, List.setIfInBounds_toArray, List.set_cons_zero, List.set_cons_succ]
        refine wpAnyH_ready (rs := [7]) (by kernel_rfl) (by simp) ?_
        refine consL rfl (by kernel_rfl) (fun K hK => ?_) AllReadyH.nil
        have hU1 := hU _ HQ4.out.is.map
        unfold kyV at hU1
        go_simp
        have HQ5 := Lib.hid (HQ4.out.put (hV _ HQ4.out.is.map).1 (hV _ HQ4.out.is.map).2)
        refine hK.out _ _ (HQ5.out.facts) (fun hHeld => ?_)
        clear hK K
        try simp only [Act.put, List.setIfInBounds_toArray, List.set_cons_zero, List.set_cons_succ]
        refine wpAnyH_done (by kernel_rfl) ?_ _
        go_wp2_with fail
        go_ret
        exact ⟨rfl, HQ5.out.is, HQ5.out.off⟩
end Go.Proofs.YtlokhhjhckiloaaGreat.Of
/- coord: the offsets' table of the call's own: New, Get, Commit. No condition. -/
namespace Go.Proofs.YtlokhhjhckiloaaGreat.Of
open Go.RowKit Go.Maps Go.ChangeMaps Go.WideMaps
set_option linter.unusedVariables false
/-- May an entry be? -/
def mayE (e : KE) : Bool := mayK e.1 && witB e.2 0 1099511627776
/-- Entries that may stand in a table with so much room. -/
structure FOk (room : Int) (F : List KE) : Prop where
  may : ∀ e ∈ F, mayE e = true
  len : (F.length : Int) ≤ room
  room : room ≤ 10000
theorem FOk.many {room : Int} {F : List KE} (h : FOk room F) : F.length ≤ 1000000 := by have := h.len; have := h.room; omega
theorem FOk.ky {room : Int} {F : List KE} (h : FOk room F) : ∀ e ∈ F, mayK e.1 = true := fun e he => by have := h.may e he; unfold mayE at this; simp only [Bool.and_eq_true] at this; exact this.1
theorem FOk.keys {room : Int} {F : List KE} (h : FOk room F) : ∀ e ∈ F, KyOk e.1 := fun e he => mayK_ok (h.ky e he)
theorem FOk.sub {room : Int} {F G : List KE} (h : FOk room F) (hs : ∀ e ∈ G, e ∈ F) (hl : G.length ≤ F.length) : FOk room G := ⟨fun e he => h.may e (hs e he), by have := h.len; omega, h.room⟩
theorem FOk.nil {room : Int} (h0 : 0 ≤ room) (h : room ≤ 10000) : FOk room [] := ⟨by simp, by simpa using h0, h⟩
theorem minK_less {F : List KE} {n : List UInt8} {e : KE} (h : ofK F n = some e) : (minK F n).length + 1 ≤ F.length := by
  obtain ⟨hm, hn⟩ := ofK_mem h
  unfold minK
  have : (F.filter fun e => !(kyB e.1 == n)).length < F.length := by
    rw [List.length_filter_lt_length_iff_exists]
    exact ⟨e, hm, by simp [hn]⟩
  omega
theorem FOk.commit {room : Int} {F : List KE} (h : FOk room F) (k : KY) (a : Int) : FOk room (coS room F k a) := by
  unfold coS
  split
  · rename_i hr
    unfold coR at hr
    split at hr
    · rename_i hm
      simp only [Bool.and_eq_true] at hm
      split at hr
      · rename_i h2
        refine ⟨fun e he => ?_, ?_, h.room⟩
        · rcases putK_mem.1 he with rfl | ⟨he, _⟩
          · unfold mayE; rw [hm.1, hm.2]; rfl
          · exact h.may e he
        · unfold putK
          rw [insK_len]
          have h3 := minK_len F (kyB k)
          have h4 := h.len
          simp only [Bool.or_eq_true, decide_eq_true_eq] at h2
          rcases h2 with h2 | h2
          · obtain ⟨e, he⟩ := Option.isSome_iff_exists.1 h2
            have h5 := minK_less he
            show (((minK F (kyB k)).length + 1 : Nat) : Int) ≤ room
            omega
          · show (((minK F (kyB k)).length + 1 : Nat) : Int) ≤ room
            omega
      · omega
    · omega
  · exact h
theorem FOk.out {room : Int} {F : List KE} (h : FOk room F) (n : List UInt8) : FOk room (minK F n) := h.sub (fun e he => (minK_mem.1 he).1) (minK_len F n)
/-- A table of the call's own. -/
structure OT (W0 : World) (p g : Nat) (room : Int) (F : List KE) (w : World) : Prop where
  is : OfIs w p g room F
  hp : W0.heap.size ≤ p
  hg : W0.heap.size ≤ g
  ok : FOk room F
theorem OT.later {W0 w w' : World} {p g : Nat} {room : Int} {F : List KE} (h : OT W0 p g room F w) (hb : Below w.heap.size w w') : OT W0 p g room F w' := ⟨h.is.later hb, h.hp, h.hg, h.ok⟩
theorem OT.off {W0 w w' : World} {p g : Nat} {room : Int} {F : List KE} {S : Nat → Prop} (h : OT W0 p g room F w) (ho : Off S w w') (h1 : ¬ S p) (h2 : ¬ S g) : OT W0 p g room F w' := ⟨h.is.off ho h1 h2, h.hp, h.hg, h.ok⟩
/-- What a call that writes leaves. -/
structure Wr (W0 : World) (p g : Nat) (room : Int) (G : List KE) (w w' : World) : Prop where
  ot : OT W0 p g room G w'
  off : Off (fun i => i = g) w w'
theorem OT.below {W0 w w' : World} {p g : Nat} {room : Int} {F G : List KE} (h : OT W0 p g room F w) (hw : Wr W0 p g room G w w') (hb : Below W0.heap.size W0 w) : Below W0.heap.size W0 w' :=
  hb.trans (hw.off.below hb.size (fun k e => by have e : k = g := e; have := h.hg; omega))
theorem new_is (W : World) (n : Int) : OfIs ((W.alloc (.map #[] 0)).alloc (.cells #[.int .i64 n, .map (some W.heap.size)] 112)) (W.heap.size + 1) W.heap.size n [] := by
  have hb := Box.new (W.alloc (.map #[] 0)) 112 #[.int .i64 n, .map (some W.heap.size)]
  rw [World.size_alloc] at hb
  have hm := World.ownsMap_made W Tryz.prog 99 tokI
  exact ⟨hb, map_off hm (Off.of_below (fun _ => False) ((Below.refl _ _).alloc (Nat.le_refl _) _)) (fun x => x), List.Pairwise.nil⟩
def GotNew (W0 : World) (n : Int) (W : World) (e : Ending) (w' : World) : Prop := ∃ p g, e = .returned (.tuple #[.pointer (some ⟨p, 0, none⟩), .int .i64 0]) ∧ OT W0 p g n [] w' ∧ W.heap.size ≤ g ∧ W.heap.size ≤ p ∧ p < w'.heap.size ∧ g < w'.heap.size ∧ Below W.heap.size W w'
theorem new_v (W0 W : World) (n : Int) (h1 : 1 ≤ n) (h2 : n ≤ 10000) (hz : W0.heap.size ≤ W.heap.size) : Calls Tryz.prog 24 #[.int .i64 n] W (GotNew W0 n W) := by
  refine (new_ok n (by unfold witB; rw [decide_eq_true h1, decide_eq_true h2]; rfl) W).mono ?_
  rintro e w' ⟨rfl, rfl⟩
  refine ⟨W.heap.size + 1, W.heap.size, rfl, ⟨new_is W n, by omega, hz, FOk.nil (by omega) h2⟩, Nat.le_refl _, by omega, by simp, by simp; omega, ?_⟩
  exact ((Below.refl W.heap.size W).alloc (Nat.le_refl _) _).trans (((Below.refl _ _).alloc (Nat.le_refl _) _).mono (by simp))
theorem get_v {W0 W : World} {p g : Nat} {room : Int} {F : List KE} (h : OT W0 p g room F W) (k : KY) (hk : KyOk k) :
    Calls Tryz.prog 45 #[.pointer (some ⟨p, 0, none⟩), .agg #[.string k.g, .string k.t, .int .i64 k.i]] W (fun e w' => e = .returned (.tuple #[.int .i64 (geR F k).1, .bool (geR F k).2]) ∧ Below W.heap.size W w') := oget_c p g room F k W h.is hk
theorem commit_v {W0 W : World} {p g : Nat} {room : Int} {F : List KE} (h : OT W0 p g room F W) (k : KY) (a : Int) :
    Calls Tryz.prog 51 #[.pointer (some ⟨p, 0, none⟩), .agg #[.string k.g, .string k.t, .int .i64 k.i], .int .i64 a] W (fun e w' => e = .returned (.int .i64 (coR room F k a)) ∧ Wr W0 p g room (coS room F k a) W w') :=
  (commit_c p g room F k a W h.is h.ok.many).mono fun e w' ⟨he, h1, h2⟩ => ⟨he, ⟨h1, h.hp, h.hg, h.ok.commit k a⟩, h2⟩
end Go.Proofs.YtlokhhjhckiloaaGreat.Of
/- coord: all groups and the offsets, of the call's own. Plain laws. No condition. -/
namespace Go.Proofs.YtlokhhjhckiloaaGreat
open Go.RowKit Go.Maps Go.ChangeMaps Go.WideMaps
set_option linter.unusedVariables false
section
variable {w w' : World} {B B' p p' : Nat} {v v' : Value} {R R' : List MV} {G G' : GD}
theorem own_ne_map {base n size t : Nat} {v : Value} {xs : List Value} {k : TypeId} {T : Value → Option (DataW Unit × List MemPlace)} {g m : Nat} {D : DataW Unit} (h : w.ownsRow base t size v n xs) (hm : w.ownsMap Tryz.prog k T g m D) : v.ownBlock ≠ some g := by
  intro e
  rcases h.2 with ⟨rfl, _⟩ | ⟨b, cap, cur, rfl, _, hg, _⟩
  · cases e
  · have : b = g := by simpa [Value.ownBlock] using e
    subst this
    obtain ⟨es, clock, hb, _⟩ := hm
    rw [hg] at hb
    cases hb
theorem two_boxes {b c : Nat} {t t' : TypeId} {cs cs' : Array Value} (h : Box w b t cs) (h' : Box w c t' cs') (hne : t ≠ t') : b ≠ c := by
  intro e
  subst e
  unfold Box at h h'
  rw [h] at h'
  injection h' with h'
  injection h' with _ h2 _
  exact hne h2
/-- What a group's calls write is no block of another type. -/
theorem grS_box (h : GrIs w B p v R G) {b : Nat} {t : TypeId} {cs : Array Value} (hb : Box w b t cs) (h1 : t ≠ 109) (h2 : t ≠ 95) : ¬ GrS p v b := by
  rintro (e | e)
  · exact two_boxes hb h.box h1 e
  · exact own_ne h.row hb h2 b e rfl
theorem grS_map (h : GrIs w B p v R G) {k : TypeId} {T : Value → Option (DataW Unit × List MemPlace)} {g m : Nat} {D : DataW Unit} (hm : w.ownsMap Tryz.prog k T g m D) : ¬ GrS p v g := by
  rintro (e | e)
  · exact box_ne_map h.box hm e.symm
  · exact own_ne_map h.row hm e
/-- Another group is as it was. -/
theorem GrIs.other (h : GrIs w B p v R G) (h' : GrIs w B' p' v' R' G') (hne : p' ≠ p) (hap : ∀ j, v'.ownBlock = some j → v.ownBlock ≠ some j) (ho : Off (GrS p v) w w') : GrIs w' B' p' v' R' G' := by
  have q0 : ∀ {t size n : Nat} {x : Value} {xs : List Value}, w.ownsRow B' t size x n xs → 109 ≠ t → t ≠ 95 → w'.ownsRow B' t size x n xs := fun hr hn hn2 => own_off hr ho (fun k hk hS => by
    rcases hS with rfl | e
    · exact own_ne hr h.box hn k hk rfl
    · exact own_two hr h.row hn2 k hk e)
  refine ⟨h'.box.off ho (fun hS => ?_), h'.base, own_off h'.row ho (fun k hk hS => ?_), fun x hx => ⟨q0 (h'.all x hx).tr (by decide) (by decide), q0 (h'.all x hx).pr (by decide) (by decide)⟩, h'.abs⟩
  · rcases hS with e | e
    · exact hne e
    · exact own_ne h.row h'.box (by decide) p' e rfl
  · rcases hS with e | e
    · exact own_ne h'.row h.box (by decide) k hk e
    · exact hap k hk e
end
def updF {α : Type} (f : Nat → α) (b : Nat) (x : α) (i : Nat) : α := if i = b then x else f i
theorem updF_same {α : Type} (f : Nat → α) (b : Nat) (x : α) : updF f b x b = x := if_pos rfl
theorem updF_ne {α : Type} (f : Nat → α) {b i : Nat} (x : α) (h : i ≠ b) : updF f b x i = f i := if_neg h
/-- All groups, each by its block: where its members stand, what it is. F: those in the map, H: those and one that is being made. -/
structure CO (W w : World) (p g o og : Nat) (k ss rb : Int) (F H : List CE) (V : Nat → Value) (D : Nat → GD) (O : List Of.KE) : Prop where
  is : CoIs w p g o ss rb F
  hp : W.heap.size ≤ p
  hg : W.heap.size ≤ g
  sub : ∀ e ∈ F, e ∈ H
  grp : ∀ e ∈ H, GO W w e.blk (V e.blk) k (D e.blk)
  nd : ∀ e ∈ H, ∀ e' ∈ H, e.blk = e'.blk → e.name = e'.name
  ap : ∀ e ∈ H, ∀ e' ∈ H, e.blk ≠ e'.blk → ∀ j, (V e.blk).ownBlock = some j → (V e'.blk).ownBlock ≠ some j
  ot : Of.OT W o og 1000 O w
  sep : og ≠ g
  bel : Below W.heap.size W w
  few : F.length ≤ 20
  nm : ∀ e ∈ F, e.name.length ≤ 100
  ss : 1 ≤ ss ∧ ss ≤ 100000
  rb : 1 ≤ rb ∧ rb ≤ 100000
section
variable {W w w' : World} {p g o og : Nat} {k ss rb : Int} {F H : List CE} {V : Nat → Value} {D : Nat → GD} {O : List Of.KE}
theorem CO.later (h : CO W w p g o og k ss rb F H V D O) (hb : Below w.heap.size w w') : CO W w' p g o og k ss rb F H V D O :=
  ⟨h.is.later hb, h.hp, h.hg, h.sub, fun e he => (h.grp e he).later hb, h.nd, h.ap, h.ot.later hb, h.sep, h.bel.trans (hb.mono h.bel.size), h.few, h.nm, h.ss, h.rb⟩
theorem CO.bump {j : Int} (h : CO W w p g o og k ss rb F H V D O) (hj : k ≤ j) : CO W w p g o og j ss rb F H V D O :=
  ⟨h.is, h.hp, h.hg, h.sub, fun e he => (h.grp e he).bump hj, h.nd, h.ap, h.ot, h.sep, h.bel, h.few, h.nm, h.ss, h.rb⟩
/-- A call on one group. -/
theorem CO.call {e : CE} {v' : Value} {G' : GD} {j : Int} (h : CO W w p g o og k ss rb F H V D O) (he : e ∈ H) (h' : GO W w' e.blk v' j G') (ho : Off (GrS e.blk (V e.blk)) w w') (hv : ∀ i, v'.ownBlock = some i → (V e.blk).ownBlock = some i ∨ w.heap.size ≤ i) (hj : k ≤ j) :
    CO W w' p g o og j ss rb F H (updF V e.blk v') (updF D e.blk G') O := by
  obtain ⟨R, hR⟩ := (h.grp e he).is
  have hob := h.ot.is.box
  have hom := h.ot.is.map
  refine ⟨h.is.off ho (grS_box hR h.is.box (by decide) (by decide)) (grS_map hR h.is.map), h.hp, h.hg, h.sub, fun e2 he2 => ?_, h.nd, fun e2 he2 e3 he3 hne i hi => ?_, h.ot.off ho (grS_box hR hob (by decide) (by decide)) (grS_map hR hom), h.sep, h.bel.trans (ho.below h.bel.size (fun i hi => ((h.grp e he).lt i hi).1)), h.few, h.nm, h.ss, h.rb⟩
  · by_cases hb : e2.blk = e.blk
    · rw [hb, updF_same, updF_same]; exact h'
    · rw [updF_ne _ _ hb, updF_ne _ _ hb]
      have h2 := h.grp e2 he2
      obtain ⟨R2, hR2⟩ := h2.is
      exact ⟨⟨R2, hR.other hR2 hb (h.ap e2 he2 e he hb) ho⟩, h2.q.mono hj, h2.n, h.bel.trans (ho.below h.bel.size (fun i hi => ((h.grp e he).lt i hi).1))⟩
  · by_cases hb : e2.blk = e.blk
    · have hb3 : e3.blk ≠ e.blk := fun x => hne (hb.trans x.symm)
      rw [hb, updF_same] at hi
      rw [updF_ne _ _ hb3]
      rcases hv i hi with x | x
      · exact h.ap e he e3 he3 (fun x => hb3 x.symm) i x
      · intro y
        have := ((h.grp e3 he3).lt i (.inr y)).2
        omega
    · rw [updF_ne _ _ hb] at hi
      by_cases hb3 : e3.blk = e.blk
      · rw [hb3, updF_same]
        intro y
        rcases hv i y with x | x
        · exact h.ap e2 he2 e he hb i hi x
        · have := ((h.grp e2 he2).lt i (.inr hi)).2
          omega
      · rw [updF_ne _ _ hb3]
        exact h.ap e2 he2 e3 he3 hne i hi
/-- One group more is made: an empty one, not in the map yet. -/
theorem CO.add (h : CO W w p g o og k ss rb F F V D O) (hk : 0 ≤ k) (n : List UInt8) (hn : ofN F n = none) :
    CO W (w.alloc (.cells #[.int .i64 0, .int .i64 0, .int .i64 0, .int .i64 0, .slice none 0 0, .int .i64 ss, .int .i64 rb] 109)) p g o og k ss rb F (⟨n, w.heap.size⟩ :: F) (updF V w.heap.size (.slice none 0 0)) (updF D w.heap.size (newG ss rb)) O := by
  have h2 := h.later ((Below.refl _ _).alloc (Nat.le_refl _) (.cells #[.int .i64 0, .int .i64 0, .int .i64 0, .int .i64 0, .slice none 0 0, .int .i64 ss, .int .i64 rb] 109))
  have hf : ∀ e ∈ F, e.blk ≠ w.heap.size := fun e he x => by
    have := ((h.grp e he).lt e.blk (.inl rfl)).2
    omega
  refine ⟨h2.is, h.hp, h.hg, fun e he => List.mem_cons_of_mem _ he, fun e he => ?_, fun e he e' he' x => ?_, fun e he e' he' hne j hj => ?_, h2.ot, h.sep, h2.bel, h.few, h.nm, h.ss, h.rb⟩
  · rcases List.mem_cons.1 he with rfl | he
    · rw [updF_same, updF_same]
      exact (GO.new h.bel h.ss h.rb).bump hk
    · rw [updF_ne _ _ (hf e he), updF_ne _ _ (hf e he)]
      exact h2.grp e he
  · rcases List.mem_cons.1 he with rfl | he
    · rcases List.mem_cons.1 he' with rfl | he'
      · rfl
      · exact absurd x.symm (hf e' he')
    · rcases List.mem_cons.1 he' with rfl | he'
      · exact absurd x (hf e he)
      · exact h.nd e he e' he' x
  · rcases List.mem_cons.1 he with rfl | he
    · rw [updF_same] at hj
      cases hj
    · rw [updF_ne _ _ (hf e he)] at hj
      rcases List.mem_cons.1 he' with rfl | he'
      · rw [updF_same]
        exact fun x => by cases x
      · rw [updF_ne _ _ (hf e' he')]
        exact h.ap e he e' he' hne j hj
/-- The one that was being made is let go. -/
theorem CO.shut (h : CO W w p g o og k ss rb F H V D O) : CO W w p g o og k ss rb F F V D O :=
  ⟨h.is, h.hp, h.hg, fun e he => he, fun e he => h.grp e (h.sub e he), fun e he e' he' => h.nd e (h.sub e he) e' (h.sub e' he'), fun e he e' he' => h.ap e (h.sub e he) e' (h.sub e' he'), h.ot, h.sep, h.bel, h.few, h.nm, h.ss, h.rb⟩
theorem grown_off {w w' : World} {g : Nat} (hg : w.grownBy w' (some g)) : Off (fun i => i = g) w w' := (Off.refl (fun i => i = g) w).grown hg (fun i e _ => by injection e with e; exact e.symm)
/-- It is kept. -/
theorem CO.put {x : CE} (h : CO W w p g o og k ss rb F H V D O) (hx : x ∈ H) (hn : x.name.length ≤ 100) (hl : (putC x F).length ≤ 20) (hm : w'.ownsMap Tryz.prog 9 tokC g (putC x F).length (mapC (putC x F))) (hg : w.grownBy w' (some g)) : CO W w' p g o og k ss rb (putC x F) (putC x F) V D O := by
  have ho := grown_off hg
  have hsub : ∀ e ∈ putC x F, e ∈ H := fun e he => by
    rcases putC_mem.1 he with rfl | ⟨he, _⟩
    · exact hx
    · exact h.sub e he
  have hgb : W.heap.size ≤ g := h.hg
  have hob : o ≠ g := box_ne_map h.ot.is.box h.is.map
  have hbel : Below W.heap.size W w' := h.bel.trans (ho.below h.bel.size (fun i hi => by rw [hi]; exact hgb))
  refine ⟨⟨h.is.box.off ho (fun e => box_ne_map h.is.box h.is.map e), hm, putC_rise h.is.rise⟩, h.hp, h.hg, fun e he => he, fun e he => ?_, fun e he e' he' => h.nd e (hsub e he) e' (hsub e' he'), fun e he e' he' => h.ap e (hsub e he) e' (hsub e' he'), h.ot.off ho hob (fun e => ?_), h.sep, hbel, hl, fun e he => ?_, h.ss, h.rb⟩
  · have h2 := h.grp e (hsub e he)
    obtain ⟨R, hR⟩ := h2.is
    have hq : ∀ {t size n : Nat} {x : Value} {xs : List Value}, w.ownsRow W.heap.size t size x n xs → w'.ownsRow W.heap.size t size x n xs := fun hr => own_off hr ho (fun i hi e => own_ne_map hr h.is.map (by rw [hi, e]))
    exact ⟨⟨R, hR.box.off ho (fun e => box_ne_map hR.box h.is.map e), hR.base, hq hR.row, fun x hx => ⟨hq (hR.all x hx).tr, hq (hR.all x hx).pr⟩, hR.abs⟩, h2.q, h2.n, hbel⟩
  · exact h.sep e
  · rcases putC_mem.1 he with rfl | ⟨he, _⟩
    · exact hn
    · exact h.nm e he
/-- A block that is none of theirs has turned. -/
theorem CO.box {b : Nat} {t : TypeId} {cs : Array Value} (h : CO W w p g o og k ss rb F H V D O) (hb : Box w b t cs) (ht : t ≠ 69 ∧ t ≠ 109 ∧ t ≠ 95 ∧ t ≠ 9 ∧ t ≠ 34 ∧ t ≠ 112) (hW : W.heap.size ≤ b) (ho : Off (fun i => i = b) w w') : CO W w' p g o og k ss rb F H V D O := by
  obtain ⟨t1, t2, t3, t4, t5, t6⟩ := ht
  have hbel : Below W.heap.size W w' := h.bel.trans (ho.below h.bel.size (fun i hi => by rw [hi]; exact hW))
  refine ⟨h.is.off ho (fun e => two_boxes h.is.box hb (fun x => t1 x.symm) e) (fun e => box_ne_map hb h.is.map e.symm), h.hp, h.hg, h.sub, fun e he => ?_, h.nd, h.ap, h.ot.off ho (fun e => two_boxes h.ot.is.box hb (fun x => t6 x.symm) e) (fun e => box_ne_map hb h.ot.is.map e.symm), h.sep, hbel, h.few, h.nm, h.ss, h.rb⟩
  have h2 := h.grp e he
  obtain ⟨R, hR⟩ := h2.is
  have hq : ∀ {t' size n : Nat} {x : Value} {xs : List Value}, w.ownsRow W.heap.size t' size x n xs → t ≠ t' → w'.ownsRow W.heap.size t' size x n xs := fun hr hne => own_off hr ho (fun i hi e => own_ne hr hb hne i hi e)
  exact ⟨⟨R, hR.box.off ho (fun e => two_boxes hR.box hb (fun x => t2 x.symm) e), hR.base, hq hR.row t3, fun x hx => ⟨hq (hR.all x hx).tr t4, hq (hR.all x hx).pr t5⟩, hR.abs⟩, h2.q, h2.n, hbel⟩
/-- The offsets' map has turned, no more. -/
theorem CO.offs {O' : List Of.KE} (h : CO W w p g o og k ss rb F H V D O) (h' : Of.Wr W o og 1000 O' w w') : CO W w' p g o og k ss rb F H V D O' := by
  have ho := h'.off
  have hom := h.ot.is.map
  have hgb : W.heap.size ≤ og := h.ot.hg
  have hbel : Below W.heap.size W w' := h.bel.trans (ho.below h.bel.size (fun i hi => by rw [hi]; exact hgb))
  refine ⟨h.is.off ho (fun e => box_ne_map h.is.box hom e) (fun e => h.sep e.symm), h.hp, h.hg, h.sub, fun e he => ?_, h.nd, h.ap, h'.ot, h.sep, hbel, h.few, h.nm, h.ss, h.rb⟩
  have h2 := h.grp e he
  obtain ⟨R, hR⟩ := h2.is
  have hq : ∀ {t size n : Nat} {x : Value} {xs : List Value}, w.ownsRow W.heap.size t size x n xs → w'.ownsRow W.heap.size t size x n xs := fun hr => own_off hr ho (fun i hi e => own_ne_map hr hom (by rw [hi, e]))
  exact ⟨⟨R, hR.box.off ho (fun e => box_ne_map hR.box hom e), hR.base, hq hR.row, fun x hx => ⟨hq (hR.all x hx).tr, hq (hR.all x hx).pr⟩, hR.abs⟩, h2.q, h2.n, hbel⟩
end
end Go.Proofs.YtlokhhjhckiloaaGreat
/- coord: find, findOrMake, Group, Leave, Commit, Committed, by contracts. No condition but that calls are not too many. -/
namespace Go.Proofs.YtlokhhjhckiloaaGreat
open Go.RowKit Go.Maps Go.ChangeMaps Go.WideMaps
set_option linter.unusedVariables false
/-- Names stand once. -/
theorem names_one {F : List CE} (h : F.Pairwise fun a b => bytesBefore a.name b.name = true) {a b : CE} (ha : a ∈ F) (hb : b ∈ F) (he : a.name = b.name) : a = b := by
  induction F with
  | nil => cases ha
  | cons x r ih =>
    rw [List.pairwise_cons] at h
    have hirr : ∀ n : List UInt8, bytesBefore n n = true → False := fun n hn => by
      have : bytesBefore n n = false := by
        induction n with
        | nil => rfl
        | cons u l ih2 => simp [bytesBefore] at hn ⊢ <;> simp_all
      rw [this] at hn; cases hn
    have h1 := h.1
    rcases List.mem_cons.1 ha with ea | ha2
    · rcases List.mem_cons.1 hb with eb | hb2
      · rw [ea, eb]
      · have h3 := h1 b hb2
        rw [← ea, he] at h3
        exact (hirr _ h3).elim
    · rcases List.mem_cons.1 hb with eb | hb2
      · have h3 := h1 a ha2
        rw [← eb, he] at h3
        exact (hirr _ h3).elim
      · exact ih h.2 ha2 hb2
theorem ofN_some {F : List CE} (h : F.Pairwise fun a b => bytesBefore a.name b.name = true) {e : CE} (he : e ∈ F) : ofN F e.name = some e := by
  cases hf : ofN F e.name with
  | none =>
    have := List.find?_eq_none.1 hf e he
    simp at this
  | some x =>
    obtain ⟨h1, h2⟩ := ofN_mem hf
    rw [names_one h h1 he h2]
theorem ofN_put {F : List CE} (h : F.Pairwise fun a b => bytesBefore a.name b.name = true) (x : CE) (n : List UInt8) : ofN (putC x F) n = if n = x.name then some x else ofN F n := by
  have h2 := putC_rise (x := x) h
  split
  · rename_i e
    rw [e]
    exact ofN_some h2 (putC_mem.2 (.inl rfl))
  · rename_i e
    cases hf : ofN F n with
    | none =>
      cases hg : ofN (putC x F) n with
      | none => rfl
      | some y =>
        obtain ⟨h3, h4⟩ := ofN_mem hg
        rcases putC_mem.1 h3 with rfl | ⟨h3, _⟩
        · exact absurd h4.symm e
        · have := ofN_some h h3
          rw [h4, hf] at this
          cases this
    | some y =>
      obtain ⟨h3, h4⟩ := ofN_mem hf
      have := ofN_some h2 (putC_mem.2 (.inr ⟨h3, by rw [h4]; exact e⟩))
      rwa [h4] at this
/-- A group by its name. -/
def gv (F : List CE) (D : Nat → GD) (n : List UInt8) : Option GD := (ofN F n).map fun e => D e.blk
section
variable {W w w' : World} {p g o og : Nat} {k ss rb : Int} {F H : List CE} {V : Nat → Value} {D : Nat → GD} {O : List Of.KE}
theorem gv_upd {e : CE} {G' : GD} (h : CO W w p g o og k ss rb F F V D O) (he : e ∈ F) (n : List UInt8) : gv F (updF D e.blk G') n = if n = e.name then some G' else gv F D n := by
  unfold gv
  split
  · rename_i hn
    rw [hn, ofN_some h.is.rise he]
    show some (updF D e.blk G' e.blk) = _
    rw [updF_same]
  · rename_i hn
    cases hf : ofN F n with
    | none => rfl
    | some y =>
      obtain ⟨h3, h4⟩ := ofN_mem hf
      show some (updF D e.blk G' y.blk) = some (D y.blk)
      rw [updF_ne]
      intro hb
      exact hn (h4.symm.trans (h.nd y h3 e he hb))
theorem cfind_none (h : CO W w p g o og k ss rb F H V D O) (s : ByteArray) (hs : s.size ≤ maxLen) (hf : ofN F s.data.toList = none) : Calls Tryz.prog 43 #[.pointer (some ⟨p, 0, none⟩), .string s] w (fun e w' => e = .returned (.tuple #[.pointer none, .int .i64 11]) ∧ w' = w) := by
  have hl := look_any h.is s hs true
  obtain ⟨c0, c1, c2, c3, cl⟩ := h.is.cells
  rw [if_pos rfl, hf] at hl
  simp only [lookV, Option.isSome] at hl
  clear hf
  go_enter Tryz.func43, Tryz.ntmps43
  go_wp2_with fail
  go_ret2

  exact ⟨rfl, rfl⟩
theorem cfind_some (h : CO W w p g o og k ss rb F H V D O) (s : ByteArray) (hs : s.size ≤ maxLen) {e0 : CE} (hf : ofN F s.data.toList = some e0) : Calls Tryz.prog 43 #[.pointer (some ⟨p, 0, none⟩), .string s] w (fun e w' => e = .returned (.tuple #[.pointer (some ⟨e0.blk, 0, none⟩), .int .i64 0]) ∧ w' = w) := by
  have hl := look_any h.is s hs true
  obtain ⟨c0, c1, c2, c3, cl⟩ := h.is.cells
  rw [if_pos rfl, hf] at hl
  simp only [lookV, ceV, Option.isSome] at hl
  clear hf
  go_enter Tryz.func43, Tryz.ntmps43
  go_wp2_with fail
  go_ret2
  exact ⟨rfl, rfl⟩
theorem cfind_nil (s : ByteArray) (W : World) : Calls Tryz.prog 43 #[.pointer none, .string s] W (fun e w' => e = .returned (.tuple #[.pointer none, .int .i64 1]) ∧ w' = W) := by
  go_enter Tryz.func43, Tryz.ntmps43
  go_wp2_with fail
  go_ret2
  exact ⟨rfl, rfl⟩
end
end Go.Proofs.YtlokhhjhckiloaaGreat
