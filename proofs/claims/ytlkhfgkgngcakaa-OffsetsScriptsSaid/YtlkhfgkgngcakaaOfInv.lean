/- offsets: what is a key of the map is a key: plain words. No condition. -/
import Derived.Test.YtlkhfgkgngcakaaOfPut
namespace Go.Proofs.Ytlkhfgkgngcakaa
open Go.RowKit Go.Maps Go.ChangeMaps Go.WideMaps
set_option linter.unusedVariables false
theorem lits_str {m : Nat} {a : Value} {ls : List Lit} (h : Try.prog.keyLits (m + 1) 9 [a] = some ls) : ∃ s : ByteArray, a = .string s ∧ s.size ≤ maxLen := by
  simp only [Program.keyLits, Try.underlying9] at h
  cases a <;> simp at h
  case string s => exact ⟨s, rfl, h.1⟩
theorem lits_int {m : Nat} {a : Value} {ls : List Lit} (h : Try.prog.keyLits (m + 1) 3 [a] = some ls) : ∃ n : Int, a = .int .i64 n ∧ (Lit.int .i64 n).wf = true := by
  simp only [Program.keyLits, Try.underlying3] at h
  cases a <;> simp at h
  case int k n => exact ⟨n, by rw [h.1.1], h.1.2⟩
set_option maxRecDepth 100000 in
theorem kyInv {key : Value} {kl : Lit} (h : keyOf Try.prog 45 key = some kl) : ∃ k : KY, key = kyV k ∧ KyOk k := by
  unfold keyOf at h
  simp only [Try.underlying45] at h
  by_cases hf : (Try.prog.keyType 45 && key.formed Try.prog 45) = true
  · rw [if_pos hf] at h
    simp only [Bool.and_eq_true] at hf
    have hform := hf.2
    have hfs : ∃ fs, Try.prog.underlying 45 = some (.struct fs) := ⟨_, Try.underlying45⟩
    obtain ⟨fs, hu⟩ := hfs
    cases key
    case agg cs =>
      unfold Value.formed at hform
      rw [hu] at hform
      simp only [kyCells, beq_iff_eq] at hform
      obtain ⟨l⟩ := cs
      match l, hform with
      | [a, b, c], _ =>
        obtain ⟨n, hn⟩ : ∃ n, Try.prog.types.size = n + 2 := ⟨Try.prog.types.size - 2, by kernel_rfl⟩
        rw [hn] at h
        have c1 : Try.prog.cellsOf 9 = 1 := by kernel_rfl
        have c2 : Try.prog.cellsOf 36 = 2 := by kernel_rfl
        have c3 : Try.prog.cellsOf 3 = 1 := by kernel_rfl
        have h' : (Try.prog.keyLits (n + 3) 45 [a, b, c]).map (fun ls => Lit.string (keyBytes ls)) = some kl := h
        rw [show n + 3 = (n + 2) + 1 from rfl] at h'
        unfold Program.keyLits at h'
        simp [Try.underlying45, c1, c2, kyCells, Option.bind_eq_some_iff, List.mapM_cons] at h'
        obtain ⟨l1, k1, _, ⟨l2, k2, _⟩, _⟩ := h'
        obtain ⟨s1, rfl, z1⟩ := lits_str k1
        rw [show n + 2 = (n + 1) + 1 from rfl] at k2
        unfold Program.keyLits at k2
        simp [Try.underlying36, c1, c2, c3, Option.bind_eq_some_iff, List.mapM_cons] at k2
        obtain ⟨l3, k3, _, ⟨l4, k4, _⟩, _⟩ := k2
        obtain ⟨s2, rfl, z2⟩ := lits_str k3
        obtain ⟨i, rfl, z3⟩ := lits_int k4
        exact ⟨⟨s1, s2, i⟩, rfl, ⟨z1, z2, z3⟩⟩
    all_goals
      unfold Value.formed at hform
      rw [hu] at hform
      simp at hform
  · rw [if_neg hf] at h
    cases h
end Go.Proofs.Ytlkhfgkgngcakaa
