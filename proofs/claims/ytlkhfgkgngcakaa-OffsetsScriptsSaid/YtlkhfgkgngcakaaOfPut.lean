/- offsets: put, delete in its map; plain words on entries in their places. No condition. -/
import Derived.Test.YtlkhfgkgngcakaaOfMap
namespace Go.Proofs.Ytlkhfgkgngcakaa
open Go.RowKit Go.Maps Go.ChangeMaps Go.WideMaps
set_option linter.unusedVariables false
/-- One in its place by its key. -/
def insK (x : KE) : List KE → List KE
  | [] => [x]
  | y :: r => if bytesBefore (kyB x.1) (kyB y.1) then x :: y :: r else y :: insK x r
def minK (F : List KE) (n : List UInt8) : List KE := F.filter fun e => !(kyB e.1 == n)
def putK (x : KE) (F : List KE) : List KE := insK x (minK F (kyB x.1))
theorem insert_entT (x : KE) : ∀ F : List KE, DataW.insert (entK x) (F.map entK) = (insK x F).map entK
  | [] => rfl
  | y :: r => by
    have ih := insert_entT x r
    show (if (entK x).1.before (entK y).1 then _ else _) = _
    unfold insK
    have e : (entK x).1.before (entK y).1 = bytesBefore (kyB x.1) (kyB y.1) := rfl
    rw [e]
    split
    · rfl
    · simp only [List.map_cons, ih]
theorem filter_entT (n : List UInt8) (F : List KE) : (F.map entK).filter (fun q => !q.1.sameKey (.string n)) = (minK F n).map entK := by
  unfold minK
  rw [List.filter_map]
  rfl
theorem mapK_put (F : List KE) (x : KE) : (mapK F).put (.string (kyB x.1)) (itD x) = mapK (putK x F) := by
  unfold mapK DataW.put putK
  simp only
  rw [filter_entT]
  exact congrArg DataW.map (insert_entT x _)
theorem mapK_del (F : List KE) (n : List UInt8) : (mapK F).del (.string n) = mapK (minK F n) := by
  unfold mapK DataW.del
  simp only
  rw [filter_entT]
theorem insK_perm (x : KE) : ∀ F : List KE, (insK x F).Perm (x :: F)
  | [] => List.Perm.refl _
  | y :: r => by
    unfold insK
    split
    · exact List.Perm.refl _
    · exact ((insK_perm x r).cons y).trans (List.Perm.swap x y r)
theorem insK_mem {x g : KE} {F : List KE} : g ∈ insK x F ↔ g = x ∨ g ∈ F := by rw [(insK_perm x F).mem_iff, List.mem_cons]
theorem insK_len (x : KE) (F : List KE) : (insK x F).length = F.length + 1 := by rw [(insK_perm x F).length_eq, List.length_cons]
theorem bytes_trans' {a b c : List UInt8} (h : bytesBefore a b = true) (k : bytesBefore b c = true) : bytesBefore a c = true := Go.WideShapes.bytes_trans a b c h k
theorem insK_rise {x : KE} : ∀ {F : List KE}, F.Pairwise (fun a b => bytesBefore (kyB a.1) (kyB b.1) = true) → (∀ g ∈ F, (kyB g.1) ≠ (kyB x.1)) → (insK x F).Pairwise fun a b => bytesBefore (kyB a.1) (kyB b.1) = true
  | [], _, _ => List.pairwise_singleton _ _
  | y :: r, h, hn => by
    unfold insK
    rw [List.pairwise_cons] at h
    split
    · rename_i hlt
      rw [List.pairwise_cons, List.pairwise_cons]
      refine ⟨fun g hg => ?_, h⟩
      rcases List.mem_cons.1 hg with rfl | hg
      · exact hlt
      · exact bytes_trans' hlt (h.1 g hg)
    · rename_i hlt
      rw [List.pairwise_cons]
      refine ⟨fun g hg => ?_, insK_rise h.2 (fun g hg => hn g (by simp [hg]))⟩
      rcases insK_mem.1 hg with rfl | hg
      · rcases Go.WideAt.bytes_total (kyB g.1) (kyB y.1) (fun e => hn y (by simp) e.symm) with q | q
        · exact absurd q hlt
        · exact q
      · exact h.1 g hg
theorem minK_mem {F : List KE} {n : List UInt8} {g : KE} : g ∈ minK F n ↔ g ∈ F ∧ (kyB g.1) ≠ n := by
  unfold minK
  rw [List.mem_filter]
  simp
theorem minK_len (F : List KE) (n : List UInt8) : (minK F n).length ≤ F.length := List.length_filter_le _ _
theorem minK_rise {F : List KE} {n : List UInt8} (h : F.Pairwise fun a b => bytesBefore (kyB a.1) (kyB b.1) = true) : (minK F n).Pairwise fun a b => bytesBefore (kyB a.1) (kyB b.1) = true := h.sublist List.filter_sublist
theorem minK_none {F : List KE} {n : List UInt8} (h : ofK F n = none) : minK F n = F := by
  unfold minK
  rw [List.filter_eq_self]
  intro e he
  have := List.find?_eq_none.1 h e he
  simpa using this
theorem putK_mem {x g : KE} {F : List KE} : g ∈ putK x F ↔ g = x ∨ (g ∈ F ∧ (kyB g.1) ≠ (kyB x.1)) := by
  unfold putK
  rw [insK_mem, minK_mem]
theorem putK_len (x : KE) (F : List KE) : (putK x F).length ≤ F.length + 1 := by
  unfold putK
  rw [insK_len]
  have := minK_len F (kyB x.1)
  omega
theorem putK_rise {x : KE} {F : List KE} (h : F.Pairwise fun a b => bytesBefore (kyB a.1) (kyB b.1) = true) : (putK x F).Pairwise fun a b => bytesBefore (kyB a.1) (kyB b.1) = true :=
  insK_rise (minK_rise h) fun g hg => (minK_mem.1 hg).2
theorem map_tight {w : World} {k : TypeId} {b n : Nat} {F : List KE} (h : w.ownsMap Try.prog k tokI b n (mapK F)) : w.ownsMap Try.prog k tokI b F.length (mapK F) := by
  obtain ⟨es, clock, hb, Ft, hs, hD⟩ := h
  refine ⟨es, clock, hb, Ft, ?_, hD⟩
  have e : F.map entK = (es.toList.map (Go.WideElems.rg Try.prog k tokI)).foldr DataW.insert [] := by
    unfold mapK at hD
    injection hD
  have := congrArg List.length e
  rw [length_sorted] at this
  simp at this
  omega
theorem make_map (w : World) : (Instr.makeMap 57 none).run Try.prog w = .ok (.map (some w.heap.size)) (w.alloc (.map #[] 0)) := by
  first
    | rfl
    | exact run_makeMap _ _
/-- The store into the map, as one world's turn into another. -/
theorem upd_fun (g nn : Nat) (F : List KE) (x : KE) (hx : KyOk x.1) (hnn : nn < maxLen) :
    ∃ U : World → World, (∀ w : World, w.ownsMap Try.prog 45 tokI g nn (mapK F) → (Instr.mapUpdate 57 (.map (some g)) (kyV x.1) (.int .i64 x.2)).run Try.prog w = .ok () (U w)) ∧
      ∀ w : World, w.ownsMap Try.prog 45 tokI g nn (mapK F) → (U w).ownsMap Try.prog 45 tokI g (putK x F).length (mapK (putK x F)) ∧ w.grownBy (U w) (some g) := by
  have key : ∀ w : World, w.ownsMap Try.prog 45 tokI g nn (mapK F) → ∃ w' : World, (Instr.mapUpdate 57 (.map (some g)) (kyV x.1) (.int .i64 x.2)).run Try.prog w = .ok () w' ∧ w'.ownsMap Try.prog 45 tokI g (putK x F).length (mapK (putK x F)) ∧ w.grownBy w' (some g) := by
    intro w h
    obtain ⟨w', h1, h2, h3⟩ := h.update kyKeyed Try.underlying57 hnn (kyKey x.1 hx) (val := .int .i64 x.2) (d := itD x) (ps := []) rfl
    rw [mapK_put F x] at h2
    exact ⟨w', h1, map_tight h2, h3⟩
  classical
  refine ⟨fun w => if h : w.ownsMap Try.prog 45 tokI g nn (mapK F) then Classical.choose (key w h) else w, fun w h => ?_, fun w h => ?_⟩
  · simp only [dif_pos h]
    exact (Classical.choose_spec (key w h)).1
  · simp only [dif_pos h]
    exact (Classical.choose_spec (key w h)).2
end Go.Proofs.Ytlkhfgkgngcakaa
