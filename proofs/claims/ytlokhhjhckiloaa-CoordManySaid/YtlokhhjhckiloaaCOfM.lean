/- offsets: a key as a map's key. Plain words. No condition. -/
import Derived.Test.YtlokhhjhckiloaaNum
import Derived.Test.YtlokhhjhckiloaaMem
import Derived.Maps.Own
import Derived.Maps.OwnSet
import Derived.DeepKeys4
import Derived.KernelRfl
import Derived.WalkKit
import Derived.ProofKit
import Derived.BigQuiet
import Derived.Deep.QuietTactic
import Derived.Lib.Hide
namespace Go.Proofs.Ytlokhhjhckiloaa.Of
open Go.RowKit Go.Maps Go.ChangeMaps Go.WideMaps
set_option linter.unusedVariables false
/-- A key: its group, its topic, which partition. -/
structure KY where
  g : ByteArray
  t : ByteArray
  i : Int
def kyV (k : KY) : Value := .agg #[.string k.g, .string k.t, .int .i64 k.i]
/-- A key as the map's data has it. -/
def kyB (k : KY) : List UInt8 := keyBytes [.string k.g.data.toList, .string k.t.data.toList, .int .i64 k.i]
structure KyOk (k : KY) : Prop where
  g : k.g.size ≤ maxLen
  t : k.t.size ≤ maxLen
  i : (Lit.int .i64 k.i).wf = true
theorem kyLaid : laidOutB Try.prog = true := by kernel_rfl
theorem kyRow : (68 : TypeId) < Try.prog.types.size := of_decide_eq_true (by kernel_rfl)
theorem kyWide : (match Try.prog.underlying 68 with | some (.array _ _) | some (.struct _) => true | _ => false) = true := by kernel_rfl
theorem kyDeep : Try.prog.keyTypeAt 3 68 = true := by kernel_rfl
set_option maxRecDepth 100000 in
theorem kyLaw : KeyLaw Try.prog 68 := deep_law_laid kyLaid (m := 3) (by omega) kyRow kyDeep kyWide
theorem kyKeyed : Keyed Try.prog 68 := Keyed.of_law kyLaw
theorem kyType : Try.prog.keyType 68 = true := by kernel_rfl
theorem kyCells : Try.prog.cellsOf 68 = 3 := by kernel_rfl
theorem kyFormed (k : KY) : (kyV k).formed Try.prog 68 = true := by
  unfold kyV Value.formed
  have h : ∃ fs, Try.prog.underlying 68 = some (.struct fs) := ⟨_, Try.underlying68⟩
  obtain ⟨fs, hu⟩ := h
  simp [hu, kyCells]
theorem kyLits (k : KY) (h : KyOk k) : Try.prog.keyLits (Try.prog.types.size + 1) 68 (kyV k).cells.toList = some [.string k.g.data.toList, .string k.t.data.toList, .int .i64 k.i] := by
  obtain ⟨n, hn⟩ : ∃ n, Try.prog.types.size = n + 2 := ⟨Try.prog.types.size - 2, by kernel_rfl⟩
  rw [hn]
  have c1 : Try.prog.cellsOf 9 = 1 := by kernel_rfl
  have c2 : Try.prog.cellsOf 42 = 2 := by kernel_rfl
  have c3 : Try.prog.cellsOf 3 = 1 := by kernel_rfl
  show Try.prog.keyLits (n + 3) _ [.string k.g, .string k.t, .int .i64 k.i] = _
  simp [Program.keyLits, Try.underlying68, Try.underlying42, Try.underlying9, Try.underlying3, c1, c2, c3, kyCells, h.g, h.t, h.i]
  rw [if_pos (by
    intro i hi
    match i, hi with
    | 0, _ => simp
    | 1, _ => simp)]
  rfl
theorem kyKey (k : KY) (h : KyOk k) : keyOf Try.prog 68 (kyV k) = some (.string (kyB k)) := by
  unfold keyOf
  rw [Try.underlying68]
  simp only [kyType, kyFormed, Bool.and_self, if_true, kyLits k h, Option.map_some]
  rfl
end Go.Proofs.Ytlokhhjhckiloaa.Of
/- offsets: its map, by keys that are structs: how it reads. No condition. -/
namespace Go.Proofs.Ytlokhhjhckiloaa.Of
open Go.RowKit Go.Maps Go.ChangeMaps Go.WideMaps
set_option linter.unusedVariables false
/-- An entry: its key, its offset. -/
abbrev KE := KY × Int
def tokI (v : Value) : Option (DataW Unit × List MemPlace) := match v with | .int .i64 a => some (.lit (.int .i64 a), []) | _ => none
def itD (e : KE) : DataW Unit := .lit (.int .i64 e.2)
theorem tokI_inv {v : Value} {e : KE} {ps : List MemPlace} (h : tokI v = some (itD e, ps)) : v = .int .i64 e.2 := by
  unfold tokI at h
  split at h
  · unfold itD at h
    simp at h
    rw [h.1]
  · cases h
def entK (e : KE) : Lit × DataW Unit := (.string (kyB e.1), itD e)
def mapK (F : List KE) : DataW Unit := .map (F.map entK)
/-- A table: for how many there is room, its entries by their keys. -/
structure OfIs (w : World) (p g : Nat) (room : Int) (F : List KE) : Prop where
  box : Box w p 76 #[.int .i64 room, .map (some g)]
  map : w.ownsMap Try.prog 68 tokI g F.length (mapK F)
  rise : F.Pairwise fun a b => bytesBefore (kyB a.1) (kyB b.1) = true
theorem map_off {w w' : World} {S : Nat → Prop} {k : TypeId} {R : Value → Option (DataW Unit × List MemPlace)} {b n : Nat} {D : DataW Unit} (h : w.ownsMap Try.prog k R b n D) (ho : Off S w w') (hS : ¬ S b) : w'.ownsMap Try.prog k R b n D := by
  have hlt := h.lt
  obtain ⟨es, clock, hb, F, hs, hD⟩ := h
  exact ⟨es, clock, (ho.block b hlt hS).trans hb, F, hs, hD⟩
theorem OfIs.off {w w' : World} {S : Nat → Prop} {p g : Nat} {room : Int} {F : List KE} (h : OfIs w p g room F) (ho : Off S w w') (hp : ¬ S p) (hm : ¬ S g) : OfIs w' p g room F :=
  ⟨h.box.off ho hp, map_off h.map ho hm, h.rise⟩
theorem OfIs.later {w w' : World} {p g : Nat} {room : Int} {F : List KE} (h : OfIs w p g room F) (hb : Below w.heap.size w w') : OfIs w' p g room F := h.off (Off.of_below (fun _ => False) hb) (fun x => x) (fun x => x)
theorem OfIs.cells {w : World} {p g : Nat} {room : Int} {F : List KE} (h : OfIs w p g room F) : w.cell? ⟨p, 0, none⟩ = some (.int .i64 room) ∧ w.cell? ⟨p, 1, none⟩ = some (.map (some g)) ∧ p < w.heap.size :=
  ⟨(h.box.cell 0).trans rfl, (h.box.cell 1).trans rfl, h.box.lt⟩
/-- The entry of a key. -/
def ofK (F : List KE) (n : List UInt8) : Option KE := F.find? fun e => kyB e.1 == n
theorem ofK_mem {F : List KE} {n : List UInt8} {e : KE} (h : ofK F n = some e) : e ∈ F ∧ (kyB e.1) = n := by
  unfold ofK at h
  exact ⟨List.mem_of_find?_eq_some h, by have := List.find?_some h; simpa using this⟩
theorem mapK_at (F : List KE) (n : List UInt8) (z : DataW Unit) : (mapK F).atKey (.string n) z = match ofK F n with | some e => itD e | none => z := by
  unfold mapK DataW.atKey ofK
  simp only [List.find?_map]
  have e : ((fun p : Lit × DataW Unit => p.1.sameKey (.string n)) ∘ entK) = fun e : KE => kyB e.1 == n := by
    funext e
    rfl
  rw [e]
  cases F.find? fun e => kyB e.1 == n <;> rfl
theorem zeroI (w : World) : (zeroValue 3).run Try.prog w = .ok (.int .i64 0) w := by kernel_rfl
def lookV (o : Option KE) : Value := match o with | some e => .int .i64 e.2 | none => .int .i64 0
theorem look_any {w : World} {p g : Nat} {room : Int} {F : List KE} (h : OfIs w p g room F) (k : KY) (hk : KyOk k) (c : Bool) : (Instr.lookup 74 (.map (some g)) (kyV k) c).run Try.prog w = .ok (if c then .tuple #[lookV (ofK F (kyB k)), .bool (ofK F (kyB k)).isSome] else lookV (ofK F (kyB k))) w := by
  have ha := fun z => mapK_at F (kyB k) z
  obtain ⟨es, clock, hb, Ft, _, hD⟩ := h.map
  rw [hD] at ha
  rcases Maps.fit_look c kyKeyed Try.underlying74 (zeroI _) hb Ft (kyKey k hk) with ⟨hrun, _, hat⟩ | ⟨e0, y, _, _, hrun, hRv, hat, _⟩
  · rw [hrun]
    cases hf : ofK F (kyB k) with
    | none => rfl
    | some e =>
      have h3 := ha .nil
      rw [hf, hat] at h3
      cases h3
  · rw [hrun]
    cases hf : ofK F (kyB k) with
    | none =>
      have h3 := ha .nil
      have h4 := ha (.lit (.bool true))
      rw [hf, hat] at h3 h4
      rw [h3] at h4
      cases h4
    | some e =>
      have h3 := ha .nil
      rw [hf, hat] at h3
      simp only at h3
      obtain ⟨y1, y2⟩ := y
      simp only at h3
      subst h3
      rw [tokI_inv hRv]
      rfl
theorem mapK_size (F : List KE) : Maps.size (mapK F) = F.length := by unfold mapK Maps.size; simp
theorem len_run {w : World} {p g : Nat} {room : Int} {F : List KE} (h : OfIs w p g room F) (ty : TypeId) : (Builtin.len_ #[74] ty #[.map (some g)]).run Try.prog w = .ok (.int .i64 (F.length : Int)) w := by
  rw [h.map.len Try.underlying74, mapK_size]
end Go.Proofs.Ytlokhhjhckiloaa.Of
/- offsets: put, delete in its map; plain words on entries in their places. No condition. -/
namespace Go.Proofs.Ytlokhhjhckiloaa.Of
open Go.RowKit Go.Maps Go.ChangeMaps Go.WideMaps
set_option linter.unusedVariables false
/-- One in its place by its key. -/
def insK (x : KE) : List KE → List KE
  | [] => [x]
  | y :: r => if bytesBefore (kyB x.1) (kyB y.1) then x :: y :: r else y :: insK x r
def minK (F : List KE) (n : List UInt8) : List KE := F.filter fun e => !(kyB e.1 == n)
def putK (x : KE) (F : List KE) : List KE := insK x (minK F (kyB x.1))
theorem insert_entT (x : KE) : ∀ F : List KE, DataW.insert (entK x) (F.map entK) = (insK x F).map entK
  | [] => rfl
  | y :: r => by
    have ih := insert_entT x r
    show (if (entK x).1.before (entK y).1 then _ else _) = _
    unfold insK
    have e : (entK x).1.before (entK y).1 = bytesBefore (kyB x.1) (kyB y.1) := rfl
    rw [e]
    split
    · rfl
    · simp only [List.map_cons, ih]
theorem filter_entT (n : List UInt8) (F : List KE) : (F.map entK).filter (fun q => !q.1.sameKey (.string n)) = (minK F n).map entK := by
  unfold minK
  rw [List.filter_map]
  rfl
theorem mapK_put (F : List KE) (x : KE) : (mapK F).put (.string (kyB x.1)) (itD x) = mapK (putK x F) := by
  unfold mapK DataW.put putK
  simp only
  rw [filter_entT]
  exact congrArg DataW.map (insert_entT x _)
theorem mapK_del (F : List KE) (n : List UInt8) : (mapK F).del (.string n) = mapK (minK F n) := by
  unfold mapK DataW.del
  simp only
  rw [filter_entT]
theorem insK_perm (x : KE) : ∀ F : List KE, (insK x F).Perm (x :: F)
  | [] => List.Perm.refl _
  | y :: r => by
    unfold insK
    split
    · exact List.Perm.refl _
    · exact ((insK_perm x r).cons y).trans (List.Perm.swap x y r)
theorem insK_mem {x g : KE} {F : List KE} : g ∈ insK x F ↔ g = x ∨ g ∈ F := by rw [(insK_perm x F).mem_iff, List.mem_cons]
theorem insK_len (x : KE) (F : List KE) : (insK x F).length = F.length + 1 := by rw [(insK_perm x F).length_eq, List.length_cons]
theorem bytes_trans' {a b c : List UInt8} (h : bytesBefore a b = true) (k : bytesBefore b c = true) : bytesBefore a c = true := Go.WideShapes.bytes_trans a b c h k
theorem insK_rise {x : KE} : ∀ {F : List KE}, F.Pairwise (fun a b => bytesBefore (kyB a.1) (kyB b.1) = true) → (∀ g ∈ F, (kyB g.1) ≠ (kyB x.1)) → (insK x F).Pairwise fun a b => bytesBefore (kyB a.1) (kyB b.1) = true
  | [], _, _ => List.pairwise_singleton _ _
  | y :: r, h, hn => by
    unfold insK
    rw [List.pairwise_cons] at h
    split
    · rename_i hlt
      rw [List.pairwise_cons, List.pairwise_cons]
      refine ⟨fun g hg => ?_, h⟩
      rcases List.mem_cons.1 hg with rfl | hg
      · exact hlt
      · exact bytes_trans' hlt (h.1 g hg)
    · rename_i hlt
      rw [List.pairwise_cons]
      refine ⟨fun g hg => ?_, insK_rise h.2 (fun g hg => hn g (by simp [hg]))⟩
      rcases insK_mem.1 hg with rfl | hg
      · rcases Go.WideAt.bytes_total (kyB g.1) (kyB y.1) (fun e => hn y (by simp) e.symm) with q | q
        · exact absurd q hlt
        · exact q
      · exact h.1 g hg
theorem minK_mem {F : List KE} {n : List UInt8} {g : KE} : g ∈ minK F n ↔ g ∈ F ∧ (kyB g.1) ≠ n := by
  unfold minK
  rw [List.mem_filter]
  simp
theorem minK_len (F : List KE) (n : List UInt8) : (minK F n).length ≤ F.length := List.length_filter_le _ _
theorem minK_rise {F : List KE} {n : List UInt8} (h : F.Pairwise fun a b => bytesBefore (kyB a.1) (kyB b.1) = true) : (minK F n).Pairwise fun a b => bytesBefore (kyB a.1) (kyB b.1) = true := h.sublist List.filter_sublist
theorem minK_none {F : List KE} {n : List UInt8} (h : ofK F n = none) : minK F n = F := by
  unfold minK
  rw [List.filter_eq_self]
  intro e he
  have := List.find?_eq_none.1 h e he
  simpa using this
theorem putK_mem {x g : KE} {F : List KE} : g ∈ putK x F ↔ g = x ∨ (g ∈ F ∧ (kyB g.1) ≠ (kyB x.1)) := by
  unfold putK
  rw [insK_mem, minK_mem]
theorem putK_len (x : KE) (F : List KE) : (putK x F).length ≤ F.length + 1 := by
  unfold putK
  rw [insK_len]
  have := minK_len F (kyB x.1)
  omega
theorem putK_rise {x : KE} {F : List KE} (h : F.Pairwise fun a b => bytesBefore (kyB a.1) (kyB b.1) = true) : (putK x F).Pairwise fun a b => bytesBefore (kyB a.1) (kyB b.1) = true :=
  insK_rise (minK_rise h) fun g hg => (minK_mem.1 hg).2
theorem map_tight {w : World} {k : TypeId} {b n : Nat} {F : List KE} (h : w.ownsMap Try.prog k tokI b n (mapK F)) : w.ownsMap Try.prog k tokI b F.length (mapK F) := by
  obtain ⟨es, clock, hb, Ft, hs, hD⟩ := h
  refine ⟨es, clock, hb, Ft, ?_, hD⟩
  have e : F.map entK = (es.toList.map (Go.WideElems.rg Try.prog k tokI)).foldr DataW.insert [] := by
    unfold mapK at hD
    injection hD
  have := congrArg List.length e
  rw [length_sorted] at this
  simp at this
  omega
theorem make_map (w : World) : (Instr.makeMap 74 none).run Try.prog w = .ok (.map (some w.heap.size)) (w.alloc (.map #[] 0)) := by
  first
    | rfl
    | exact run_makeMap _ _
/-- The store into the map, as one world's turn into another. -/
theorem upd_fun (g nn : Nat) (F : List KE) (x : KE) (hx : KyOk x.1) (hnn : nn < maxLen) :
    ∃ U : World → World, (∀ w : World, w.ownsMap Try.prog 68 tokI g nn (mapK F) → (Instr.mapUpdate 74 (.map (some g)) (kyV x.1) (.int .i64 x.2)).run Try.prog w = .ok () (U w)) ∧
      ∀ w : World, w.ownsMap Try.prog 68 tokI g nn (mapK F) → (U w).ownsMap Try.prog 68 tokI g (putK x F).length (mapK (putK x F)) ∧ w.grownBy (U w) (some g) := by
  have key : ∀ w : World, w.ownsMap Try.prog 68 tokI g nn (mapK F) → ∃ w' : World, (Instr.mapUpdate 74 (.map (some g)) (kyV x.1) (.int .i64 x.2)).run Try.prog w = .ok () w' ∧ w'.ownsMap Try.prog 68 tokI g (putK x F).length (mapK (putK x F)) ∧ w.grownBy w' (some g) := by
    intro w h
    obtain ⟨w', h1, h2, h3⟩ := h.update kyKeyed Try.underlying74 hnn (kyKey x.1 hx) (val := .int .i64 x.2) (d := itD x) (ps := []) rfl
    rw [mapK_put F x] at h2
    exact ⟨w', h1, map_tight h2, h3⟩
  classical
  refine ⟨fun w => if h : w.ownsMap Try.prog 68 tokI g nn (mapK F) then Classical.choose (key w h) else w, fun w h => ?_, fun w h => ?_⟩
  · simp only [dif_pos h]
    exact (Classical.choose_spec (key w h)).1
  · simp only [dif_pos h]
    exact (Classical.choose_spec (key w h)).2
end Go.Proofs.Ytlokhhjhckiloaa.Of
/- offsets: New, within, mayBe, Get, by contracts. No condition. -/
namespace Go.Proofs.Ytlokhhjhckiloaa.Of
open Go.RowKit Go.Maps Go.ChangeMaps Go.WideMaps
set_option linter.unusedVariables false
theorem below_drewN {B : Nat} {a w : World} (h : Below B a w) (n : Nat) : Below B a (w.drewN n) := ⟨h.os, h.tape, h.output, h.size, h.block⟩
/-- Is a number within bounds? -/
def witB (n l m : Int) : Bool := decide (l ≤ n) && decide (n ≤ m)
theorem within_c (n l m : Int) (W : World) : Calls Try.prog 27 #[.int .i64 n, .int .i64 l, .int .i64 m] W (fun e w' => e = .returned (.bool (witB n l m)) ∧ w' = W) := by
  unfold witB
  by_cases h : l ≤ n
  · rw [decide_eq_true h]
    go_enter Try.func27, Try.ntmps27
    go_wp2
    go_ret
    exact ⟨by simp, rfl⟩
  · rw [decide_eq_false h]
    go_enter Try.func27, Try.ntmps27
    go_wp2
    go_ret
    exact ⟨rfl, rfl⟩
/-- May a key be? -/
def mayK (k : KY) : Bool := witB k.g.size 1 100 && (witB k.t.size 1 100 && witB k.i 0 15)
theorem mayK_ok {k : KY} (h : mayK k = true) : KyOk k := by
  unfold mayK witB at h
  simp only [Bool.and_eq_true, decide_eq_true_eq] at h
  refine ⟨by unfold maxLen; omega, by unfold maxLen; omega, ?_⟩
  have h3 := h.2.2
  have e1 : IntKind.min .i64 = -9223372036854775808 := by decide
  have e2 : IntKind.max .i64 = 9223372036854775807 := by decide
  show (decide (IntKind.min .i64 ≤ k.i) && decide (k.i ≤ IntKind.max .i64)) = true
  rw [e1, e2, decide_eq_true (by omega), decide_eq_true (by omega)]
  rfl
set_option maxHeartbeats 4000000 in
set_option maxRecDepth 100000 in
theorem kmay_c (k : KY) (W : World) : Calls Try.prog 44 #[.agg #[.string k.g, .string k.t, .int .i64 k.i]] W (fun e w' => e = .returned (.bool (mayK k)) ∧ w' = W.alloc (.cells #[.string k.g, .string k.t, .int .i64 k.i] 68)) := by
  have cw := fun n l m w => within_c n l m w
  unfold mayK
  obtain ⟨a, ha⟩ : ∃ a, witB k.g.size 1 100 = a := ⟨_, rfl⟩
  obtain ⟨b, hb⟩ : ∃ b, witB k.t.size 1 100 = b := ⟨_, rfl⟩
  obtain ⟨c, hc⟩ : ∃ c, witB k.i 0 15 = c := ⟨_, rfl⟩
  have c1 := fun w => within_c k.g.size 1 100 w
  have c2 := fun w => within_c k.t.size 1 100 w
  have c3 := fun w => within_c k.i 0 15 w
  rw [ha] at c1 ⊢
  rw [hb] at c2 ⊢
  rw [hc] at c3 ⊢
  clear ha hb hc cw
  cases a with
  | false =>
    go_enter Try.func44, Try.ntmps44
    go_wp2_with fail
    with_reducible refine (c1 _).mono ?_
    rintro en w1 ⟨rfl, rfl⟩
    go_wp2_with fail
    go_ret
    exact ⟨rfl, rfl⟩
  | true =>
    cases b with
    | false =>
      go_enter Try.func44, Try.ntmps44
      go_wp2_with fail
      with_reducible refine (c1 _).mono ?_
      rintro en w1 ⟨rfl, rfl⟩
      go_wp2_with fail
      with_reducible refine (c2 _).mono ?_
      rintro en w2 ⟨rfl, rfl⟩
      go_wp2_with fail
      go_ret
      exact ⟨rfl, rfl⟩
    | true =>
      go_enter Try.func44, Try.ntmps44
      go_wp2_with fail
      with_reducible refine (c1 _).mono ?_
      rintro en w1 ⟨rfl, rfl⟩
      go_wp2_with fail
      with_reducible refine (c2 _).mono ?_
      rintro en w2 ⟨rfl, rfl⟩
      go_wp2_with fail
      with_reducible refine (c3 _).mono ?_
      rintro en w3 ⟨rfl, rfl⟩
      go_wp2_with fail
      go_ret
      exact ⟨by cases c <;> rfl, rfl⟩
/-- Get: how far, is it there? -/
def geR (F : List KE) (k : KY) : Int × Bool := match ofK F (kyB k) with | some e => (e.2, true) | none => (0, false)
theorem oget_nil (k : KY) (W : World) : Calls Try.prog 25 #[.pointer none, .agg #[.string k.g, .string k.t, .int .i64 k.i]] W (fun e w' => e = .returned (.tuple #[.int .i64 0, .bool false]) ∧ Below W.heap.size W w') := by
  go_enter Try.func25, Try.ntmps25
  go_wp2_with fail
  go_ret2
  exact ⟨rfl, (Below.refl _ _).alloc (Nat.le_refl _) _⟩
set_option maxHeartbeats 4000000 in
set_option maxRecDepth 100000 in
theorem oget_c (p g : Nat) (room : Int) (F : List KE) (k : KY) (W : World) (h : OfIs W p g room F) (hk : KyOk k) :
    Calls Try.prog 25 #[.pointer (some ⟨p, 0, none⟩), .agg #[.string k.g, .string k.t, .int .i64 k.i]] W (fun e w' => e = .returned (.tuple #[.int .i64 (geR F k).1, .bool (geR F k).2]) ∧ Below W.heap.size W w') := by
  have hb : Below W.heap.size W (W.alloc (.cells #[.string k.g, .string k.t, .int .i64 k.i] 68)) := (Below.refl _ _).alloc (Nat.le_refl _) _
  have h1 := h.later hb
  obtain ⟨c0, c1, cl⟩ := h1.cells
  have hl := fun n : Nat => look_any (h1.later (below_drewN (Below.refl _ (W.alloc (.cells #[.string k.g, .string k.t, .int .i64 k.i] 68))) n)) k hk true
  have HB := Lib.hid hb
  have hbx := Box.new W 68 #[.string k.g, .string k.t, .int .i64 k.i]
  have b0 := (hbx.cell 0).trans (show _ = some (Value.string k.g) from rfl)
  have b1 := (hbx.cell 1).trans (show _ = some (Value.string k.t) from rfl)
  have b2 := (hbx.cell 2).trans (show _ = some (Value.int .i64 k.i) from rfl)
  unfold kyV at hl
  unfold geR
  have hrun : ∃ v ok, (∀ n : Nat, (Instr.lookup 74 (.map (some g)) (.agg #[.string k.g, .string k.t, .int .i64 k.i]) true).run Try.prog ((W.alloc (.cells #[.string k.g, .string k.t, .int .i64 k.i] 68)).drewN n) = .ok (.tuple #[.int .i64 v, .bool ok]) ((W.alloc (.cells #[.string k.g, .string k.t, .int .i64 k.i] 68)).drewN n)) ∧ (match ofK F (kyB k) with | some e => (e.2, true) | none => ((0 : Int), false)) = (v, ok) := by
    cases hf : ofK F (kyB k) with
    | none => rw [hf] at hl; exact ⟨0, false, hl, rfl⟩
    | some e => rw [hf] at hl; exact ⟨e.2, true, hl, rfl⟩
  obtain ⟨v, ok, hr, hv⟩ := hrun
  rw [hv]
  clear hv hl h h1 hb hbx
  go_enter Try.func25, Try.ntmps25
  go_wp2_with fail
  go_quiet (fail)
  go_wp2_with fail
  go_ret2
  exact ⟨rfl, below_drewN HB.out _⟩
end Go.Proofs.Ytlokhhjhckiloaa.Of
