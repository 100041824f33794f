/- topic: gaveTwice, by a contract. No condition but that they are not too many. -/
import Derived.Test.YtnpfakjgocnkbaaTpNo
import Derived.Test.YtnpfakjgocnkbaaSortI
import Derived.Maps.RangeWalk
import Derived.Laws.IdiomRangeMap
import Derived.Lib.OwnBridge
import Derived.Sort.OwnSortedInts
namespace Go.Proofs.Ytnpfakjgocnkbaa
open Go.RowKit Go.Maps Go.ChangeMaps Go.WideMaps Go.MapKept Go.Sort
set_option linter.unusedVariables false
theorem ranges_off {H : Type} {P : Program} {k : TypeId} {R : Value → Option (DataW H × List MemPlace)} {w w' : World} {b r n : Nat} {D : DataW H} {left : Lit → Bool} {cnt : Nat} {S : Nat → Prop} (h : w.ranges P k R b r n D left cnt) (ho : Off S w w') (hb : ¬ S b) (hr : ¬ S r) : w'.ranges P k R b r n D left cnt := by
  have h1 := h.owns.lt
  have h2 := h.lt
  obtain ⟨es, clock, since, seen, c0, hb', F, hs, hD, hr', rest⟩ := h
  exact ⟨es, clock, since, seen, c0, (ho.block b h1 hb).trans hb', F, hs, hD, (ho.block r h2 hr).trans hr', rest⟩
theorem key_shape (key : Value) (kl : Lit) (h : keyOf Try.prog 9 key = some kl) : ∃ x : ByteArray, key = .string x := by
  have hu := Try.underlying9
  cases key <;> simp [keyOf, hu, mapKey] at h
  exact ⟨_, rfl⟩
theorem key_lit (x : ByteArray) (kl : Lit) (h : keyOf Try.prog 9 (.string x) = some kl) : kl = .string x.data.toList ∧ x.size ≤ maxLen := by
  have hu := Try.underlying9
  simp [keyOf, hu, mapKey] at h
  exact ⟨h.2.symm, h.1⟩
def mkE (c : Int × Int) : Value := .agg #[.int .i64 c.1, .int .i64 c.2]
theorem tokT_shape (v : Value) (y : DataW Unit × List MemPlace) (h : tokT v = some y) : ∃ c, v = mkE c := by
  unfold tokT at h
  split at h
  · rename_i a
    unfold tokL at h
    split at h
    · rename_i x y' he
      refine ⟨(x, y'), ?_⟩
      unfold mkE
      congr 1
      cases a
      simp at he
      rw [he]
    · cases h
  · cases h
/-- An entry that comes is a topic's. -/
theorem entry_topic {F : List TE} {kl : Lit} {c : Int × Int} {y : DataW Unit × List MemPlace} {x : ByteArray} (hkl : kl = .string x.data.toList) (hR : tokT (mkE c) = some y) (hat : ∀ zd, (mapT F).atKey kl zd = y.1) :
    ∃ e, ofN F x.data.toList = some e ∧ c = (e.id, e.parts) := by
  subst hkl
  cases hf : ofN F x.data.toList with
  | none =>
    have h1 := hat .nil
    have h2 := hat (.lit (.bool false))
    rw [mapT_at, hf] at h1 h2
    simp only at h1 h2
    rw [← h1] at h2
    cases h2
  | some e =>
    refine ⟨e, rfl, ?_⟩
    have h1 := hat .nil
    rw [mapT_at, hf] at h1
    simp only at h1
    have h2 : y.1 = .agg [.lit (.int .i64 c.1), .lit (.int .i64 c.2)] := by
      have : tokT (mkE c) = some (.agg [.lit (.int .i64 c.1), .lit (.int .i64 c.2)], []) := rfl
      rw [this] at hR
      injection hR with hR
      rw [← hR]
    rw [h2] at h1
    unfold teD at h1
    injection h1 with h1
    simp at h1
    exact Prod.ext h1.1.symm h1.2.symm
/-- Those that have come. -/
def gone (left : Lit → Bool) (F : List TE) : List TE := F.filter fun e => !left (.string e.name)
theorem gone_step {F : List TE} {left : Lit → Bool} {e : TE} (hr : F.Pairwise fun a b => bytesBefore a.name b.name = true) (he : e ∈ F) (hl : left (.string e.name) = true) :
    (gone (fun z => left z && !z.sameKey (.string e.name)) F).Perm (gone left F ++ [e]) := by
  have hk : ∀ x : TE, (Lit.string x.name).sameKey (.string e.name) = (x.name == e.name) := fun x => rfl
  unfold gone
  induction F with
  | nil => cases he
  | cons x r ih =>
    rw [List.pairwise_cons] at hr
    simp only [List.filter_cons, hk]
    rcases List.mem_cons.1 he with rfl | hm
    · have hrest : r.filter (fun x => !(left (.string x.name) && !x.name == e.name)) = r.filter fun x => !left (.string x.name) := by
        refine List.filter_congr fun z hz => ?_
        have hne : z.name ≠ e.name := fun q => by
          have := hr.1 z hz
          rw [q, Go.WideAt.bytes_irrefl] at this
          cases this
        rw [show (z.name == e.name) = false by simp [hne]]
        simp
      rw [hrest, hl]
      simp only [beq_self_eq_true, Bool.not_true, Bool.and_false, Bool.not_false, if_true, Bool.false_eq_true, if_false]
      exact (List.perm_append_singleton _ _).symm
    · have hne : x.name ≠ e.name := fun q => by
        have := hr.1 e hm
        rw [q, Go.WideAt.bytes_irrefl] at this
        cases this
      rw [show (x.name == e.name) = false by simp [hne]]
      have ih := ih hr.2 hm
      simp only [hk] at ih
      cases left (.string x.name) with
      | true => simpa using ih
      | false => simpa using ih.cons x
theorem gone_start (F : List TE) : gone (Maps.has (mapT F)) F = [] := by
  unfold gone
  rw [List.filter_eq_nil_iff]
  intro e he
  have : Maps.has (mapT F) (.string e.name) = true := by
    refine List.any_eq_true.2 ⟨entT e, List.mem_map.2 ⟨e, he, rfl⟩, ?_⟩
    show (e.name == e.name) = true
    simp
  rw [this]
  simp
theorem gone_end {F : List TE} {left : Lit → Bool} (h : ∀ kl, left kl = false) : gone left F = F := by
  unfold gone
  rw [List.filter_eq_self]
  intro x hx
  rw [h]
  rfl
end Go.Proofs.Ytnpfakjgocnkbaa
