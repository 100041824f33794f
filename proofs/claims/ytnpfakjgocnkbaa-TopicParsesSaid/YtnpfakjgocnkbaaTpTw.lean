/- topic: rising numbers of which none is told twice: plain math. No condition. -/
import Derived.Test.YtnpfakjgocnkbaaTpNu
import Derived.Lib.SlicesCompact
namespace Go.Proofs.Ytnpfakjgocnkbaa
open Go.RowKit
set_option linter.unusedVariables false
theorem comp_len {l : List Int} (hs : l.Pairwise (· ≤ ·)) : (Lib.compactUpTo l.toArray l.length).length < l.length ↔ ¬ l.Nodup := by
  unfold Lib.compactUpTo
  rw [List.length_map]
  have hr : (List.range l.length).length = l.length := List.length_range
  have hle := List.length_filter_le (Lib.keeps l.toArray) (List.range l.length)
  have hp := List.pairwise_iff_getElem.1 hs
  constructor
  · intro h hn
    have hall : ∀ j ∈ List.range l.length, Lib.keeps l.toArray j = true := by
      intro j hj
      have hj := List.mem_range.1 hj
      unfold Lib.keeps
      rw [decide_eq_true_eq]
      by_cases h0 : j = 0
      · exact .inl h0
      · right
        have hd := List.pairwise_iff_getElem.1 hn (j - 1) j (by omega) hj (by omega)
        rw [getElem!_pos l.toArray j (by simpa using hj), getElem!_pos l.toArray (j - 1) (by simp; omega)]
        simpa using fun e => hd e.symm
    rw [List.filter_eq_self.2 hall, hr] at h
    omega
  · intro hn
    rcases Nat.lt_or_ge ((List.range l.length).filter (Lib.keeps l.toArray)).length l.length with h | h
    · exact h
    · exfalso
      apply hn
      have he : ((List.range l.length).filter (Lib.keeps l.toArray)).length = (List.range l.length).length := by omega
      have hall := List.length_filter_eq_length_iff.1 he
      refine List.pairwise_iff_getElem.2 fun i j hi hj hij => ?_
      have hk := hall j (List.mem_range.2 hj)
      unfold Lib.keeps at hk
      rw [decide_eq_true_eq] at hk
      have hk := hk.resolve_left (by omega)
      rw [getElem!_pos l.toArray j (by simpa using hj), getElem!_pos l.toArray (j - 1) (by simp; omega)] at hk
      simp only [List.getElem_toArray] at hk
      have h1 : l[j - 1] ≤ l[j] := hp (j - 1) j (by omega) hj (by omega)
      have h2 : l[i] ≤ l[j - 1] := by
        by_cases e : i = j - 1
        · subst e; exact Int.le_refl _
        · exact hp i (j - 1) hi (by omega) (by omega)
      intro e
      omega
/-- Numbers in any order, sorted, made compact: fewer just where one is told twice. -/
theorem comp_tw {F : List TE} {l : List Int} (hp : l.Perm (F.map (·.id))) (hs : l.Pairwise (· ≤ ·)) : decide ((Lib.compactUpTo l.toArray l.length).length < F.length) = twB F := by
  have hl : l.length = F.length := by rw [hp.length_eq, List.length_map]
  unfold twB
  have h1 := comp_len hs
  rw [hl] at h1
  rw [← hl] at h1
  rw [← hl]
  rw [show decide ((F.map (·.id)).Nodup) = decide l.Nodup from decide_eq_decide.2 (hp.nodup_iff).symm]
  by_cases h : l.Nodup
  · rw [decide_eq_true h, decide_eq_false (fun x => (h1.1 x) h)]; rfl
  · rw [decide_eq_false h, decide_eq_true (h1.2 h)]; rfl
end Go.Proofs.Ytnpfakjgocnkbaa
