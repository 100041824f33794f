/- clean: where the last record of each key stands: a map in memory. Plain words. No condition. -/
import Derived.Test.YtdclkhbolmbnmaaDoorNum
import Derived.Test.YtdclkhbolmbnmaaDoorMem
import Derived.Maps.Own
import Derived.Maps.OwnSet
import Derived.StringKeys
import Derived.KernelRfl
import Derived.WalkKit
import Derived.ProofKit
import Derived.BigQuiet
import Derived.Deep.QuietTactic
import Derived.Deep.RegionHeld3
import Derived.Deep.RegionWith
import Derived.Lib.Hide
namespace Go.Proofs.YtdclkhbolmbnmaaDoor
open Go.RowKit Go.Maps Go.ChangeMaps Go.WideMaps
set_option linter.unusedVariables false
/-- A topic: its name, its id, of how many partitions it is. -/
structure TE where
  name : List UInt8
  id : Int
  parts : Int
def teV (e : TE) : Value := .agg #[.int .i64 e.id, .int .i64 e.parts]
def teD (e : TE) : DataW Unit := .agg [.lit (.int .i64 e.id), .lit (.int .i64 e.parts)]
def tokL (l : List Value) : Option (DataW Unit × List MemPlace) :=
  match l with
  | [.int .i64 a, .int .i64 b] => some (.agg [.lit (.int .i64 a), .lit (.int .i64 b)], [])
  | _ => none
/-- How an entry reads. -/
def tokT (v : Value) : Option (DataW Unit × List MemPlace) :=
  match v with
  | .agg a => tokL a.toList
  | _ => none
theorem tokT_of (e : TE) : tokT (teV e) = some (teD e, []) := rfl
theorem tokL_inv {l : List Value} {e : TE} {ps : List MemPlace} (h : tokL l = some (teD e, ps)) : l = [.int .i64 e.id, .int .i64 e.parts] := by
  unfold tokL at h
  split at h
  · unfold teD at h
    simp at h
    obtain ⟨⟨h1, h2⟩, _⟩ := h
    rw [h1, h2]
  · cases h
theorem tokT_inv {v : Value} {e : TE} {ps : List MemPlace} (h : tokT v = some (teD e, ps)) : v = teV e := by
  unfold tokT at h
  split at h
  · rename_i a
    have := tokL_inv h
    unfold teV
    congr 1
    cases a
    simp at this
    rw [this]
  · cases h
def entT (e : TE) : Lit × DataW Unit := (.string e.name, teD e)
def mapT (F : List TE) : DataW Unit := .map (F.map entT)
/-- The last places in memory. -/
structure KmIs (w : World) (m : Option Nat) (F : List TE) : Prop where
  map : (m = none ∧ F = []) ∨ ∃ g, m = some g ∧ w.ownsMap Tryd.prog 9 tokT g F.length (mapT F)
  rise : F.Pairwise fun a b => bytesBefore a.name b.name = true
theorem map_off {w w' : World} {S : Nat → Prop} {k : TypeId} {R : Value → Option (DataW Unit × List MemPlace)} {b n : Nat} {D : DataW Unit} (h : w.ownsMap Tryd.prog k R b n D) (ho : Off S w w') (hS : ¬ S b) : w'.ownsMap Tryd.prog k R b n D := by
  have hlt := h.lt
  obtain ⟨es, clock, hb, F, hs, hD⟩ := h
  exact ⟨es, clock, (ho.block b hlt hS).trans hb, F, hs, hD⟩
/-- The topic of a name. -/
def ofN (F : List TE) (n : List UInt8) : Option TE := F.find? fun e => e.name == n
theorem ofN_mem {F : List TE} {n : List UInt8} {e : TE} (h : ofN F n = some e) : e ∈ F ∧ e.name = n := by
  unfold ofN at h
  exact ⟨List.mem_of_find?_eq_some h, by have := List.find?_some h; simpa using this⟩
theorem mapT_at (F : List TE) (n : List UInt8) (z : DataW Unit) : (mapT F).atKey (.string n) z = match ofN F n with | some e => teD e | none => z := by
  unfold mapT DataW.atKey ofN
  simp only [List.find?_map]
  have e : ((fun p : Lit × DataW Unit => p.1.sameKey (.string n)) ∘ entT) = fun e : TE => e.name == n := by
    funext e
    rfl
  rw [e]
  cases F.find? fun e => e.name == n <;> rfl
theorem zeroT (w : World) : (zeroValue 56).run Tryd.prog w = .ok (.agg #[.int .i64 0, .int .i64 0]) w := by kernel_rfl
def lookV (o : Option TE) : Value := match o with | some e => teV e | none => .agg #[.int .i64 0, .int .i64 0]
def lookB (o : Option TE) : Bool := o.isSome
theorem look_any {w : World} {m : Option Nat} {F : List TE} (h : KmIs w m F) (s : ByteArray) (hs : s.size ≤ maxLen) (c : Bool) : (Instr.lookup 49 (.map m) (.string s) c).run Tryd.prog w = .ok (if c then .tuple #[lookV (ofN F s.data.toList), .bool (lookB (ofN F s.data.toList))] else lookV (ofN F s.data.toList)) w := by
  rcases h.map with ⟨h1, h2⟩ | ⟨g, h1, h2⟩
  · rw [h1, h2]
    have := look_nil (w := w) c (string_keyed Tryd.underlying9) Tryd.underlying49 (zeroT _) (keyOf_string_mk Tryd.underlying9 hs)
    rw [this]
    rfl
  · rw [h1]
    have ha := fun z => mapT_at F s.data.toList z
    obtain ⟨es, clock, hb, Ft, _, hD⟩ := h2
    rw [hD] at ha
    rcases Maps.fit_look c (string_keyed Tryd.underlying9) Tryd.underlying49 (zeroT _) hb Ft (keyOf_string_mk Tryd.underlying9 hs) with ⟨hrun, _, hat⟩ | ⟨e0, y, _, _, hrun, hRv, hat, _⟩
    · rw [hrun]
      cases hf : ofN F s.data.toList with
      | none => rfl
      | some e =>
        have h3 := ha .nil
        rw [hf, hat] at h3
        cases h3
    · rw [hrun]
      cases hf : ofN F s.data.toList with
      | none =>
        have h3 := ha .nil
        have h4 := ha (.lit (.bool true))
        rw [hf, hat] at h3 h4
        rw [h3] at h4
        cases h4
      | some e =>
        have h3 := ha .nil
        rw [hf, hat] at h3
        simp only at h3
        obtain ⟨y1, y2⟩ := y
        simp only at h3
        subst h3
        rw [tokT_inv hRv]
        rfl
def dp (p : Nat) : Value := .pointer (some ⟨p, 0, none⟩)
theorem mapT_size (F : List TE) : Maps.size (mapT F) = F.length := by unfold mapT Maps.size; simp
theorem len_run {w : World} {m : Option Nat} {F : List TE} (h : KmIs w m F) (ty : TypeId) : (Builtin.len_ #[49] ty #[.map m]).run Tryd.prog w = .ok (.int .i64 (F.length : Int)) w := by
  rcases h.map with ⟨rfl, rfl⟩ | ⟨g, rfl, hown⟩
  · have u := run_underlying (P := Tryd.prog) Tryd.underlying49
    simp [Builtin.len_, go_sem, u]
  · rw [hown.len Tryd.underlying49, mapT_size]
/-- One in its place by its name. -/
def insT (x : TE) : List TE → List TE
  | [] => [x]
  | y :: r => if bytesBefore x.name y.name then x :: y :: r else y :: insT x r
def minT (F : List TE) (n : List UInt8) : List TE := F.filter fun e => !(e.name == n)
def putT (x : TE) (F : List TE) : List TE := insT x (minT F x.name)
theorem insert_entT (x : TE) : ∀ F : List TE, DataW.insert (entT x) (F.map entT) = (insT x F).map entT
  | [] => rfl
  | y :: r => by
    have ih := insert_entT x r
    show (if (entT x).1.before (entT y).1 then _ else _) = _
    unfold insT
    have e : (entT x).1.before (entT y).1 = bytesBefore x.name y.name := rfl
    rw [e]
    split
    · rfl
    · simp only [List.map_cons, ih]
theorem filter_entT (n : List UInt8) (F : List TE) : (F.map entT).filter (fun q => !q.1.sameKey (.string n)) = (minT F n).map entT := by
  unfold minT
  rw [List.filter_map]
  rfl
theorem mapT_put (F : List TE) (x : TE) : (mapT F).put (.string x.name) (teD x) = mapT (putT x F) := by
  unfold mapT DataW.put putT
  simp only
  rw [filter_entT]
  exact congrArg DataW.map (insert_entT x _)
theorem mapT_del (F : List TE) (n : List UInt8) : (mapT F).del (.string n) = mapT (minT F n) := by
  unfold mapT DataW.del
  simp only
  rw [filter_entT]
theorem insT_perm (x : TE) : ∀ F : List TE, (insT x F).Perm (x :: F)
  | [] => List.Perm.refl _
  | y :: r => by
    unfold insT
    split
    · exact List.Perm.refl _
    · exact ((insT_perm x r).cons y).trans (List.Perm.swap x y r)
theorem insT_mem {x g : TE} {F : List TE} : g ∈ insT x F ↔ g = x ∨ g ∈ F := by rw [(insT_perm x F).mem_iff, List.mem_cons]
theorem insT_len (x : TE) (F : List TE) : (insT x F).length = F.length + 1 := by rw [(insT_perm x F).length_eq, List.length_cons]
theorem bytes_trans' {a b c : List UInt8} (h : bytesBefore a b = true) (k : bytesBefore b c = true) : bytesBefore a c = true := Go.WideShapes.bytes_trans a b c h k
theorem insT_rise {x : TE} : ∀ {F : List TE}, F.Pairwise (fun a b => bytesBefore a.name b.name = true) → (∀ g ∈ F, g.name ≠ x.name) → (insT x F).Pairwise fun a b => bytesBefore a.name b.name = true
  | [], _, _ => List.pairwise_singleton _ _
  | y :: r, h, hn => by
    unfold insT
    rw [List.pairwise_cons] at h
    split
    · rename_i hlt
      rw [List.pairwise_cons, List.pairwise_cons]
      refine ⟨fun g hg => ?_, h⟩
      rcases List.mem_cons.1 hg with rfl | hg
      · exact hlt
      · exact bytes_trans' hlt (h.1 g hg)
    · rename_i hlt
      rw [List.pairwise_cons]
      refine ⟨fun g hg => ?_, insT_rise h.2 (fun g hg => hn g (by simp [hg]))⟩
      rcases insT_mem.1 hg with rfl | hg
      · rcases Go.WideAt.bytes_total g.name y.name (fun e => hn y (by simp) e.symm) with q | q
        · exact absurd q hlt
        · exact q
      · exact h.1 g hg
theorem minT_mem {F : List TE} {n : List UInt8} {g : TE} : g ∈ minT F n ↔ g ∈ F ∧ g.name ≠ n := by
  unfold minT
  rw [List.mem_filter]
  simp
theorem minT_len (F : List TE) (n : List UInt8) : (minT F n).length ≤ F.length := List.length_filter_le _ _
theorem minT_rise {F : List TE} {n : List UInt8} (h : F.Pairwise fun a b => bytesBefore a.name b.name = true) : (minT F n).Pairwise fun a b => bytesBefore a.name b.name = true := h.sublist List.filter_sublist
theorem minT_none {F : List TE} {n : List UInt8} (h : ofN F n = none) : minT F n = F := by
  unfold minT
  rw [List.filter_eq_self]
  intro e he
  have := List.find?_eq_none.1 h e he
  simpa using this
theorem putT_mem {x g : TE} {F : List TE} : g ∈ putT x F ↔ g = x ∨ (g ∈ F ∧ g.name ≠ x.name) := by
  unfold putT
  rw [insT_mem, minT_mem]
theorem putT_len (x : TE) (F : List TE) : (putT x F).length ≤ F.length + 1 := by
  unfold putT
  rw [insT_len]
  have := minT_len F x.name
  omega
theorem putT_rise {x : TE} {F : List TE} (h : F.Pairwise fun a b => bytesBefore a.name b.name = true) : (putT x F).Pairwise fun a b => bytesBefore a.name b.name = true :=
  insT_rise (minT_rise h) fun g hg => (minT_mem.1 hg).2
theorem map_tight {w : World} {k : TypeId} {b n : Nat} {F : List TE} (h : w.ownsMap Tryd.prog k tokT b n (mapT F)) : w.ownsMap Tryd.prog k tokT b F.length (mapT F) := by
  obtain ⟨es, clock, hb, Ft, hs, hD⟩ := h
  refine ⟨es, clock, hb, Ft, ?_, hD⟩
  have e : F.map entT = (es.toList.map (Go.WideElems.rg Tryd.prog k tokT)).foldr DataW.insert [] := by
    unfold mapT at hD
    injection hD
  have := congrArg List.length e
  rw [length_sorted] at this
  simp at this
  omega
theorem make_map (w : World) : (Instr.makeMap 49 none).run Tryd.prog w = .ok (.map (some w.heap.size)) (w.alloc (.map #[] 0)) := by
  first
    | rfl
    | exact run_makeMap _ _ 
/-- The store into the map, as one world's turn into another. -/
theorem upd_fun (g nn : Nat) (F : List TE) (n : ByteArray) (x : TE) (hx : x.name = n.data.toList) (hn : n.size ≤ maxLen) (hnn : nn < maxLen) :
    ∃ U : World → World, (∀ w : World, w.ownsMap Tryd.prog 9 tokT g nn (mapT F) → (Instr.mapUpdate 49 (.map (some g)) (.string n) (.agg #[.int .i64 x.id, .int .i64 x.parts])).run Tryd.prog w = .ok () (U w)) ∧
      ∀ w : World, w.ownsMap Tryd.prog 9 tokT g nn (mapT F) → (U w).ownsMap Tryd.prog 9 tokT g (putT x F).length (mapT (putT x F)) ∧ w.grownBy (U w) (some g) := by
  have key : ∀ w : World, w.ownsMap Tryd.prog 9 tokT g nn (mapT F) → ∃ w' : World, (Instr.mapUpdate 49 (.map (some g)) (.string n) (.agg #[.int .i64 x.id, .int .i64 x.parts])).run Tryd.prog w = .ok () w' ∧ w'.ownsMap Tryd.prog 9 tokT g (putT x F).length (mapT (putT x F)) ∧ w.grownBy w' (some g) := by
    intro w h
    obtain ⟨w', h1, h2, h3⟩ := h.update (string_keyed Tryd.underlying9) Tryd.underlying49 hnn (keyOf_string_mk Tryd.underlying9 hn) (val := .agg #[.int .i64 x.id, .int .i64 x.parts]) (d := teD x) (ps := []) rfl
    rw [← hx, mapT_put F x] at h2
    exact ⟨w', h1, map_tight h2, h3⟩
  classical
  refine ⟨fun w => if h : w.ownsMap Tryd.prog 9 tokT g nn (mapT F) then Classical.choose (key w h) else w, fun w h => ?_, fun w h => ?_⟩
  · simp only [dif_pos h]
    exact (Classical.choose_spec (key w h)).1
  · simp only [dif_pos h]
    exact (Classical.choose_spec (key w h)).2
theorem box_ne_map {w : World} {b g n : Nat} {t k : TypeId} {cs : Array Value} {D : DataW Unit} {R : Value → Option (DataW Unit × List MemPlace)} (h : Box w b t cs) (hm : w.ownsMap Tryd.prog k R g n D) : b ≠ g := by
  rintro rfl
  obtain ⟨es, clock, hb, _⟩ := hm
  unfold Box at h
  rw [h] at hb
  cases hb
theorem box_ne {w : World} {b b' : Nat} {t t' : TypeId} {cs cs' : Array Value} (h : Box w b t cs) (h' : Box w b' t' cs') (hne : t ≠ t') : b ≠ b' := by
  rintro rfl
  unfold Box at h h'
  rw [h] at h'
  injection h' with h'
  injection h' with _ h2 _
  exact hne h2
theorem box_grown {w w' : World} {p g : Nat} {t : TypeId} {cs : Array Value} (h : Box w p t cs) (hg : w.grownBy w' (some g)) (hne : p ≠ g) : Box w' p t cs :=
  (hg.block p h.lt (fun e => hne (by injection e))).trans h
theorem KmIs.off {w w' : World} {S : Nat → Prop} {m : Option Nat} {F : List TE} (h : KmIs w m F) (ho : Off S w w') (hm : ∀ k, m = some k → ¬ S k) : KmIs w' m F :=
  ⟨by
    rcases h.map with h1 | ⟨g, h1, h2⟩
    · exact .inl h1
    · exact .inr ⟨g, h1, map_off h2 ho (hm g h1)⟩, h.rise⟩
theorem KmIs.later {w w' : World} {m : Option Nat} {F : List TE} (h : KmIs w m F) (hb : Below w.heap.size w w') : KmIs w' m F := h.off (Off.of_below (fun _ => False) hb) (fun _ _ x => x)
end Go.Proofs.YtdclkhbolmbnmaaDoor
