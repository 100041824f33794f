/- offsets: its map, by keys that are structs: how it reads. No condition. -/
import Derived.Test.YtlkhfgkgngcakaaOfRep
namespace Go.Proofs.Ytlkhfgkgngcakaa
open Go.RowKit Go.Maps Go.ChangeMaps Go.WideMaps
set_option linter.unusedVariables false
/-- An entry: its key, its offset. -/
abbrev KE := KY × Int
def tokI (v : Value) : Option (DataW Unit × List MemPlace) := match v with | .int .i64 a => some (.lit (.int .i64 a), []) | _ => none
def itD (e : KE) : DataW Unit := .lit (.int .i64 e.2)
theorem tokI_inv {v : Value} {e : KE} {ps : List MemPlace} (h : tokI v = some (itD e, ps)) : v = .int .i64 e.2 := by
  unfold tokI at h
  split at h
  · unfold itD at h
    simp at h
    rw [h.1]
  · cases h
def entK (e : KE) : Lit × DataW Unit := (.string (kyB e.1), itD e)
def mapK (F : List KE) : DataW Unit := .map (F.map entK)
/-- A table: for how many there is room, its entries by their keys. -/
structure OfIs (w : World) (p g : Nat) (room : Int) (F : List KE) : Prop where
  box : Box w p 59 #[.int .i64 room, .map (some g)]
  map : w.ownsMap Try.prog 45 tokI g F.length (mapK F)
  rise : F.Pairwise fun a b => bytesBefore (kyB a.1) (kyB b.1) = true
theorem map_off {w w' : World} {S : Nat → Prop} {k : TypeId} {R : Value → Option (DataW Unit × List MemPlace)} {b n : Nat} {D : DataW Unit} (h : w.ownsMap Try.prog k R b n D) (ho : Off S w w') (hS : ¬ S b) : w'.ownsMap Try.prog k R b n D := by
  have hlt := h.lt
  obtain ⟨es, clock, hb, F, hs, hD⟩ := h
  exact ⟨es, clock, (ho.block b hlt hS).trans hb, F, hs, hD⟩
theorem OfIs.off {w w' : World} {S : Nat → Prop} {p g : Nat} {room : Int} {F : List KE} (h : OfIs w p g room F) (ho : Off S w w') (hp : ¬ S p) (hm : ¬ S g) : OfIs w' p g room F :=
  ⟨h.box.off ho hp, map_off h.map ho hm, h.rise⟩
theorem OfIs.later {w w' : World} {p g : Nat} {room : Int} {F : List KE} (h : OfIs w p g room F) (hb : Below w.heap.size w w') : OfIs w' p g room F := h.off (Off.of_below (fun _ => False) hb) (fun x => x) (fun x => x)
theorem OfIs.cells {w : World} {p g : Nat} {room : Int} {F : List KE} (h : OfIs w p g room F) : w.cell? ⟨p, 0, none⟩ = some (.int .i64 room) ∧ w.cell? ⟨p, 1, none⟩ = some (.map (some g)) ∧ p < w.heap.size :=
  ⟨(h.box.cell 0).trans rfl, (h.box.cell 1).trans rfl, h.box.lt⟩
/-- The entry of a key. -/
def ofK (F : List KE) (n : List UInt8) : Option KE := F.find? fun e => kyB e.1 == n
theorem ofK_mem {F : List KE} {n : List UInt8} {e : KE} (h : ofK F n = some e) : e ∈ F ∧ (kyB e.1) = n := by
  unfold ofK at h
  exact ⟨List.mem_of_find?_eq_some h, by have := List.find?_some h; simpa using this⟩
theorem mapK_at (F : List KE) (n : List UInt8) (z : DataW Unit) : (mapK F).atKey (.string n) z = match ofK F n with | some e => itD e | none => z := by
  unfold mapK DataW.atKey ofK
  simp only [List.find?_map]
  have e : ((fun p : Lit × DataW Unit => p.1.sameKey (.string n)) ∘ entK) = fun e : KE => kyB e.1 == n := by
    funext e
    rfl
  rw [e]
  cases F.find? fun e => kyB e.1 == n <;> rfl
theorem zeroI (w : World) : (zeroValue 3).run Try.prog w = .ok (.int .i64 0) w := by kernel_rfl
def lookV (o : Option KE) : Value := match o with | some e => .int .i64 e.2 | none => .int .i64 0
theorem look_any {w : World} {p g : Nat} {room : Int} {F : List KE} (h : OfIs w p g room F) (k : KY) (hk : KyOk k) (c : Bool) : (Instr.lookup 57 (.map (some g)) (kyV k) c).run Try.prog w = .ok (if c then .tuple #[lookV (ofK F (kyB k)), .bool (ofK F (kyB k)).isSome] else lookV (ofK F (kyB k))) w := by
  have ha := fun z => mapK_at F (kyB k) z
  obtain ⟨es, clock, hb, Ft, _, hD⟩ := h.map
  rw [hD] at ha
  rcases Maps.fit_look c kyKeyed Try.underlying57 (zeroI _) hb Ft (kyKey k hk) with ⟨hrun, _, hat⟩ | ⟨e0, y, _, _, hrun, hRv, hat, _⟩
  · rw [hrun]
    cases hf : ofK F (kyB k) with
    | none => rfl
    | some e =>
      have h3 := ha .nil
      rw [hf, hat] at h3
      cases h3
  · rw [hrun]
    cases hf : ofK F (kyB k) with
    | none =>
      have h3 := ha .nil
      have h4 := ha (.lit (.bool true))
      rw [hf, hat] at h3 h4
      rw [h3] at h4
      cases h4
    | some e =>
      have h3 := ha .nil
      rw [hf, hat] at h3
      simp only at h3
      obtain ⟨y1, y2⟩ := y
      simp only at h3
      subst h3
      rw [tokI_inv hRv]
      rfl
theorem mapK_size (F : List KE) : Maps.size (mapK F) = F.length := by unfold mapK Maps.size; simp
theorem len_run {w : World} {p g : Nat} {room : Int} {F : List KE} (h : OfIs w p g room F) (ty : TypeId) : (Builtin.len_ #[57] ty #[.map (some g)]).run Try.prog w = .ok (.int .i64 (F.length : Int)) w := by
  rw [h.map.len Try.underlying57, mapK_size]
end Go.Proofs.Ytlkhfgkgngcakaa
