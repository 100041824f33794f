/- coord: find, findOrMake, Group, Leave, Commit, Committed, by contracts. No condition but that calls are not too many. -/
import Derived.Test.YtlokhhjhckiloaaCoMem
import Derived.Test.YtlokhhjhckiloaaAsClone
namespace Go.Proofs.Ytlokhhjhckiloaa
open Go.RowKit Go.Maps Go.ChangeMaps Go.WideMaps
set_option linter.unusedVariables false
/-- Names stand once. -/
theorem names_one {F : List CE} (h : F.Pairwise fun a b => bytesBefore a.name b.name = true) {a b : CE} (ha : a ∈ F) (hb : b ∈ F) (he : a.name = b.name) : a = b := by
  induction F with
  | nil => cases ha
  | cons x r ih =>
    rw [List.pairwise_cons] at h
    have hirr : ∀ n : List UInt8, bytesBefore n n = true → False := fun n hn => by
      have : bytesBefore n n = false := by
        induction n with
        | nil => rfl
        | cons u l ih2 => simp [bytesBefore] at hn ⊢ <;> simp_all
      rw [this] at hn; cases hn
    have h1 := h.1
    rcases List.mem_cons.1 ha with ea | ha2
    · rcases List.mem_cons.1 hb with eb | hb2
      · rw [ea, eb]
      · have h3 := h1 b hb2
        rw [← ea, he] at h3
        exact (hirr _ h3).elim
    · rcases List.mem_cons.1 hb with eb | hb2
      · have h3 := h1 a ha2
        rw [← eb, he] at h3
        exact (hirr _ h3).elim
      · exact ih h.2 ha2 hb2
theorem ofN_some {F : List CE} (h : F.Pairwise fun a b => bytesBefore a.name b.name = true) {e : CE} (he : e ∈ F) : ofN F e.name = some e := by
  cases hf : ofN F e.name with
  | none =>
    have := List.find?_eq_none.1 hf e he
    simp at this
  | some x =>
    obtain ⟨h1, h2⟩ := ofN_mem hf
    rw [names_one h h1 he h2]
theorem ofN_put {F : List CE} (h : F.Pairwise fun a b => bytesBefore a.name b.name = true) (x : CE) (n : List UInt8) : ofN (putC x F) n = if n = x.name then some x else ofN F n := by
  have h2 := putC_rise (x := x) h
  split
  · rename_i e
    rw [e]
    exact ofN_some h2 (putC_mem.2 (.inl rfl))
  · rename_i e
    cases hf : ofN F n with
    | none =>
      cases hg : ofN (putC x F) n with
      | none => rfl
      | some y =>
        obtain ⟨h3, h4⟩ := ofN_mem hg
        rcases putC_mem.1 h3 with rfl | ⟨h3, _⟩
        · exact absurd h4.symm e
        · have := ofN_some h h3
          rw [h4, hf] at this
          cases this
    | some y =>
      obtain ⟨h3, h4⟩ := ofN_mem hf
      have := ofN_some h2 (putC_mem.2 (.inr ⟨h3, by rw [h4]; exact e⟩))
      rwa [h4] at this
/-- A group by its name. -/
def gv (F : List CE) (D : Nat → GD) (n : List UInt8) : Option GD := (ofN F n).map fun e => D e.blk
section
variable {W w w' : World} {p g o og : Nat} {k ss rb : Int} {F H : List CE} {V : Nat → Value} {D : Nat → GD} {O : List Of.KE}
theorem gv_upd {e : CE} {G' : GD} (h : CO W w p g o og k ss rb F F V D O) (he : e ∈ F) (n : List UInt8) : gv F (updF D e.blk G') n = if n = e.name then some G' else gv F D n := by
  unfold gv
  split
  · rename_i hn
    rw [hn, ofN_some h.is.rise he]
    show some (updF D e.blk G' e.blk) = _
    rw [updF_same]
  · rename_i hn
    cases hf : ofN F n with
    | none => rfl
    | some y =>
      obtain ⟨h3, h4⟩ := ofN_mem hf
      show some (updF D e.blk G' y.blk) = some (D y.blk)
      rw [updF_ne]
      intro hb
      exact hn (h4.symm.trans (h.nd y h3 e he hb))
theorem cfind_none (h : CO W w p g o og k ss rb F H V D O) (s : ByteArray) (hs : s.size ≤ maxLen) (hf : ofN F s.data.toList = none) : Calls Try.prog 21 #[.pointer (some ⟨p, 0, none⟩), .string s] w (fun e w' => e = .returned (.tuple #[.pointer none, .int .i64 11]) ∧ w' = w) := by
  have hl := look_any h.is s hs true
  obtain ⟨c0, c1, c2, c3, cl⟩ := h.is.cells
  rw [if_pos rfl, hf] at hl
  simp only [lookV, Option.isSome] at hl
  clear hf
  go_enter Try.func21, Try.ntmps21
  go_wp2_with fail
  go_ret2

  exact ⟨rfl, rfl⟩
theorem cfind_some (h : CO W w p g o og k ss rb F H V D O) (s : ByteArray) (hs : s.size ≤ maxLen) {e0 : CE} (hf : ofN F s.data.toList = some e0) : Calls Try.prog 21 #[.pointer (some ⟨p, 0, none⟩), .string s] w (fun e w' => e = .returned (.tuple #[.pointer (some ⟨e0.blk, 0, none⟩), .int .i64 0]) ∧ w' = w) := by
  have hl := look_any h.is s hs true
  obtain ⟨c0, c1, c2, c3, cl⟩ := h.is.cells
  rw [if_pos rfl, hf] at hl
  simp only [lookV, ceV, Option.isSome] at hl
  clear hf
  go_enter Try.func21, Try.ntmps21
  go_wp2_with fail
  go_ret2
  exact ⟨rfl, rfl⟩
theorem cfind_nil (s : ByteArray) (W : World) : Calls Try.prog 21 #[.pointer none, .string s] W (fun e w' => e = .returned (.tuple #[.pointer none, .int .i64 1]) ∧ w' = W) := by
  go_enter Try.func21, Try.ntmps21
  go_wp2_with fail
  go_ret2
  exact ⟨rfl, rfl⟩
end
end Go.Proofs.Ytlokhhjhckiloaa
