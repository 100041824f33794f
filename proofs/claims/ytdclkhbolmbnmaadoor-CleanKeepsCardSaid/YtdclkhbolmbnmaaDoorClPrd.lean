/- clean: which batch is the last one of each producer: a map in memory. Plain words. No condition. -/
import Derived.Test.YtdclkhbolmbnmaaDoorClRep
import Derived.Maps.Keyed
namespace Go.Proofs.YtdclkhbolmbnmaaDoor.Pr
open Go.RowKit Go.Maps Go.ChangeMaps Go.WideMaps
set_option linter.unusedVariables false
/-- A producer and its last batch. -/
structure HE where
  id : Int
  at_ : Int
/-- How an entry reads. -/
def tokP (v : Value) : Option (DataW Unit × List MemPlace) :=
  match v with
  | .int .i64 a => some (.lit (.int .i64 a), [])
  | _ => none
def entP (h : HE) : Lit × DataW Unit := (.int .i64 h.id, .lit (.int .i64 h.at_))
def mapP (F : List HE) : DataW Unit := .map (F.map entP)
/-- The last batches in memory. -/
structure PmIs (w : World) (m : Option Nat) (F : List HE) : Prop where
  map : (m = none ∧ F = []) ∨ ∃ g, m = some g ∧ w.ownsMap Tryd.prog 3 tokP g F.length (mapP F)
  rise : F.Pairwise fun a b => a.id < b.id
theorem PmIs.off {w w' : World} {S : Nat → Prop} {m : Option Nat} {F : List HE} (h : PmIs w m F) (ho : Off S w w') (hm : ∀ k, m = some k → ¬ S k) : PmIs w' m F :=
  ⟨by
    rcases h.map with h1 | ⟨g, h1, h2⟩
    · exact .inl h1
    · exact .inr ⟨g, h1, map_off h2 ho (hm g h1)⟩, h.rise⟩
theorem PmIs.later {w w' : World} {m : Option Nat} {F : List HE} (h : PmIs w m F) (hb : Below w.heap.size w w') : PmIs w' m F := h.off (Off.of_below (fun _ => False) hb) (fun _ _ x => x)
/-- The one of a number. -/
def ofId (F : List HE) (n : Int) : Option HE := F.find? fun h => decide (h.id = n)
theorem ofId_mem {F : List HE} {n : Int} {h : HE} (hh : ofId F n = some h) : h ∈ F ∧ h.id = n := by
  unfold ofId at hh
  exact ⟨List.mem_of_find?_eq_some hh, by have := List.find?_some hh; simpa using this⟩
theorem mapP_at (F : List HE) (n : Int) (z : DataW Unit) : (mapP F).atKey (.int .i64 n) z = match ofId F n with | some h => .lit (.int .i64 h.at_) | none => z := by
  unfold mapP DataW.atKey ofId
  simp only [List.find?_map]
  have e : ((fun p : Lit × DataW Unit => p.1.sameKey (.int .i64 n)) ∘ entP) = fun h : HE => decide (h.id = n) := by
    funext h
    show decide (_ ∧ _) = _
    simp
  rw [e]
  cases F.find? fun h => decide (h.id = n) <;> rfl
theorem tokP_inv {v : Value} {b : Int} {ps : List MemPlace} (h : tokP v = some (.lit (.int .i64 b), ps)) : v = .int .i64 b := by
  unfold tokP at h
  split at h
  · rename_i b'
    simp at h
    rw [h.1]
  · cases h
theorem zeroPr (w : World) : (zeroValue 3).run Tryd.prog w = .ok (.int .i64 0) w := by kernel_rfl
def atH (o : Option HE) : Int := match o with | some h => h.at_ | none => 0
def i64B (n : Int) : Prop := -9223372036854775808 ≤ n ∧ n ≤ 9223372036854775807
theorem wf_i64 {n : Int} (h : i64B n) : (Lit.int .i64 n).wf = true := by
  unfold i64B at h
  have h1 : IntKind.i64.min = -9223372036854775808 := by decide
  have h2 : IntKind.i64.max = 9223372036854775807 := by decide
  simp only [Lit.wf, h1, h2, Bool.and_eq_true, decide_eq_true_eq]
  exact h
theorem look_run {w : World} {m : Option Nat} {F : List HE} (h : PmIs w m F) (n : Int) (hn : i64B n) : (Instr.lookup 51 (.map m) (.int .i64 n) false).run Tryd.prog w = .ok (.int .i64 (atH (ofId F n))) w := by
  rcases h.map with ⟨h1, h2⟩ | ⟨g, h1, h2⟩
  · rw [h1, h2]
    have := look_nil (w := w) false (int_keyed Tryd.underlying3) Tryd.underlying51 (zeroPr _) (keyOf_int_mk Tryd.underlying3 (wf_i64 hn))
    rw [show (Value.int .i64 (atH (ofId [] n))) = .int .i64 0 from rfl]
    simpa using this
  · rw [h1]
    obtain ⟨v, ps, hr, hv⟩ := h2.lookup (int_keyed Tryd.underlying3) Tryd.underlying51 (z := .int .i64 0) (zd := .lit (.int .i64 0)) (zp := []) (zeroPr _) rfl (keyOf_int_mk Tryd.underlying3 (wf_i64 hn))
    rw [hr, mapP_at] at *
    cases hf : ofId F n with
    | none => rw [hf] at hv; rw [tokP_inv hv]; rfl
    | some f => rw [hf] at hv; rw [tokP_inv hv]; rfl
def insH (x : HE) : List HE → List HE
  | [] => [x]
  | y :: r => if x.id < y.id then x :: y :: r else y :: insH x r
def putF (x : HE) (F : List HE) : List HE := insH x (F.filter fun h => !decide (h.id = x.id))
theorem insert_entP (x : HE) : ∀ F : List HE, DataW.insert (entP x) (F.map entP) = (insH x F).map entP
  | [] => rfl
  | y :: r => by
    have ih := insert_entP x r
    show (if (entP x).1.before (entP y).1 then _ else _) = _
    unfold insH
    have e : (entP x).1.before (entP y).1 = decide (x.id < y.id) := rfl
    rw [e]
    by_cases h : x.id < y.id
    · rw [decide_eq_true h, if_pos rfl, if_pos h]; rfl
    · rw [decide_eq_false h, if_neg (by simp), if_neg h, List.map_cons, ih]
theorem filter_entP (n : Int) (F : List HE) : (F.map entP).filter (fun q => !q.1.sameKey (.int .i64 n)) = (F.filter fun h => !decide (h.id = n)).map entP := by
  rw [List.filter_map]
  congr 1
  refine List.filter_congr fun h _ => ?_
  show (!decide (_ ∧ _)) = _
  simp
theorem mapP_put (F : List HE) (x : HE) : (mapP F).put (.int .i64 x.id) (.lit (.int .i64 x.at_)) = mapP (putF x F) := by
  unfold mapP DataW.put putF
  simp only
  rw [filter_entP]
  exact congrArg DataW.map (insert_entP x _)
theorem insH_perm (x : HE) : ∀ F : List HE, (insH x F).Perm (x :: F)
  | [] => List.Perm.refl _
  | y :: r => by
    unfold insH
    split
    · exact List.Perm.refl _
    · exact ((insH_perm x r).cons y).trans (List.Perm.swap x y r)
theorem insH_mem {x g : HE} {F : List HE} : g ∈ insH x F ↔ g = x ∨ g ∈ F := by rw [(insH_perm x F).mem_iff, List.mem_cons]
theorem insH_rise {x : HE} : ∀ {F : List HE}, F.Pairwise (fun a b => a.id < b.id) → (∀ g ∈ F, g.id ≠ x.id) → (insH x F).Pairwise fun a b => a.id < b.id
  | [], _, _ => List.pairwise_singleton _ _
  | y :: r, h, hn => by
    unfold insH
    rw [List.pairwise_cons] at h
    split
    · rename_i hlt
      rw [List.pairwise_cons, List.pairwise_cons]
      refine ⟨fun g hg => ?_, h⟩
      rcases List.mem_cons.1 hg with rfl | hg
      · exact hlt
      · have := h.1 g hg; omega
    · rename_i hlt
      rw [List.pairwise_cons]
      refine ⟨fun g hg => ?_, insH_rise h.2 (fun g hg => hn g (by simp [hg]))⟩
      rcases insH_mem.1 hg with rfl | hg
      · have := hn y (by simp); omega
      · exact h.1 g hg
theorem insH_pair {R : HE → HE → Prop} {x : HE} : ∀ {F : List HE}, F.Pairwise R → (∀ g ∈ F, R x g ∧ R g x) → (insH x F).Pairwise R
  | [], _, _ => List.pairwise_singleton _ _
  | y :: r, h, hn => by
    unfold insH
    rw [List.pairwise_cons] at h
    split
    · rw [List.pairwise_cons, List.pairwise_cons]
      exact ⟨fun g hg => (hn g hg).1, h⟩
    · rw [List.pairwise_cons]
      refine ⟨fun g hg => ?_, insH_pair h.2 (fun g hg => hn g (by simp [hg]))⟩
      rcases insH_mem.1 hg with rfl | hg
      · exact (hn y (by simp)).2
      · exact h.1 g hg
theorem putF_mem {x g : HE} {F : List HE} : g ∈ putF x F ↔ g = x ∨ (g ∈ F ∧ g.id ≠ x.id) := by
  unfold putF
  rw [insH_mem, List.mem_filter]
  simp
theorem putF_len (x : HE) (F : List HE) : (putF x F).length ≤ F.length + 1 := by
  unfold putF
  rw [(insH_perm x _).length_eq, List.length_cons]
  have := List.length_filter_le (fun h : HE => !decide (h.id = x.id)) F
  omega
theorem map_tight {w : World} {k : TypeId} {b n : Nat} {F : List HE} (h : w.ownsMap Tryd.prog k tokP b n (mapP F)) : w.ownsMap Tryd.prog k tokP b F.length (mapP F) := by
  obtain ⟨es, clock, hb, Ft, hs, hD⟩ := h
  refine ⟨es, clock, hb, Ft, ?_, hD⟩
  have e : F.map entP = (es.toList.map (Go.WideElems.rg Tryd.prog k tokP)).foldr DataW.insert [] := by
    unfold mapP at hD
    injection hD
  have := congrArg List.length e
  rw [length_sorted] at this
  simp at this
  omega
theorem make_map (w : World) : (Instr.makeMap 51 none).run Tryd.prog w = .ok (.map (some w.heap.size)) (w.alloc (.map #[] 0)) := by
  first
    | rfl
    | exact run_makeMap _ _ 
/-- The store into the map, as one world's turn into another. -/
theorem upd_fun (g nn : Nat) (F : List HE) (x : HE) (hx : i64B x.id) (hnn : nn < maxLen) :
    ∃ U : World → World, (∀ w : World, w.ownsMap Tryd.prog 3 tokP g nn (mapP F) → (Instr.mapUpdate 51 (.map (some g)) (.int .i64 x.id) (.int .i64 x.at_)).run Tryd.prog w = .ok () (U w)) ∧
      ∀ w : World, w.ownsMap Tryd.prog 3 tokP g nn (mapP F) → (U w).ownsMap Tryd.prog 3 tokP g (putF x F).length (mapP (putF x F)) ∧ w.grownBy (U w) (some g) := by
  have key : ∀ w : World, w.ownsMap Tryd.prog 3 tokP g nn (mapP F) → ∃ w' : World, (Instr.mapUpdate 51 (.map (some g)) (.int .i64 x.id) (.int .i64 x.at_)).run Tryd.prog w = .ok () w' ∧ w'.ownsMap Tryd.prog 3 tokP g (putF x F).length (mapP (putF x F)) ∧ w.grownBy w' (some g) := by
    intro w h
    obtain ⟨w', h1, h2, h3⟩ := h.update (int_keyed Tryd.underlying3) Tryd.underlying51 hnn (keyOf_int_mk Tryd.underlying3 (wf_i64 hx)) (val := .int .i64 x.at_) (d := .lit (.int .i64 x.at_)) (ps := []) rfl
    rw [mapP_put F x] at h2
    exact ⟨w', h1, map_tight h2, h3⟩
  classical
  refine ⟨fun w => if h : w.ownsMap Tryd.prog 3 tokP g nn (mapP F) then Classical.choose (key w h) else w, fun w h => ?_, fun w h => ?_⟩
  · simp only [dif_pos h]
    exact (Classical.choose_spec (key w h)).1
  · simp only [dif_pos h]
    exact (Classical.choose_spec (key w h)).2
end Go.Proofs.YtdclkhbolmbnmaaDoor.Pr
