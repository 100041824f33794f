/- idem: those that were heard, in memory: a block, a map, a block for each. Plain words. No condition. -/
import Derived.Test.YtdhakekndinbeaaImWin
import Derived.Maps.Keyed
namespace Go.Proofs.Ytdhakekndinbeaa
open Go.RowKit Go.Maps Go.ChangeMaps Go.WideMaps
set_option linter.unusedVariables false
/-- One that was heard: its number, its block, what it holds. -/
structure HE where
  id : Int
  blk : Nat
  e : Int
  R : Nat → SN
  f : Nat
  c : Nat
/-- A pointer reads as its block's number. -/
def tokP (v : Value) : Option (DataW Unit × List MemPlace) :=
  match v with
  | .pointer none => some (.lit (.int .i64 (-1)), [])
  | .pointer (some ⟨b, 0, none⟩) => some (.lit (.int .i64 (b : Int)), [])
  | _ => none
def entP (h : HE) : Lit × DataW Unit := (.int .i64 h.id, .lit (.int .i64 (h.blk : Int)))
def mapP (F : List HE) : DataW Unit := .map (F.map entP)
structure HeIn (w : World) (h : HE) : Prop where
  pr : PrIs w h.blk h.e h.R h.f h.c
  ok : ∀ k, k < 5 → okN (h.R k)
  id : 0 ≤ h.id ∧ h.id ≤ 1073741824
/-- Those that were heard, rising by their numbers. -/
structure PdIs (w : World) (p : Nat) (m : Option Nat) (F : List HE) : Prop where
  box : Box w p 58 #[.map m]
  map : (m = none ∧ F = []) ∨ ∃ g, m = some g ∧ w.ownsMap Try.prog 3 tokP g F.length (mapP F)
  all : ∀ h ∈ F, HeIn w h
  blks : F.Pairwise fun a b => a.blk ≠ b.blk
  rise : F.Pairwise fun a b => a.id < b.id
theorem map_off {w w' : World} {S : Nat → Prop} {k : TypeId} {R : Value → Option (DataW Unit × List MemPlace)} {b n : Nat} {D : DataW Unit} (h : w.ownsMap Try.prog k R b n D) (ho : Off S w w') (hS : ¬ S b) : w'.ownsMap Try.prog k R b n D := by
  have hlt := h.lt
  obtain ⟨es, clock, hb, F, hs, hD⟩ := h
  exact ⟨es, clock, (ho.block b hlt hS).trans hb, F, hs, hD⟩
theorem PdIs.later {w w' : World} {p : Nat} {m : Option Nat} {F : List HE} (h : PdIs w p m F) (hb : Below w.heap.size w w') : PdIs w' p m F :=
  ⟨h.box.later hb, by
    rcases h.map with h1 | ⟨g, h1, h2⟩
    · exact .inl h1
    · exact .inr ⟨g, h1, map_off h2 (Off.of_below (fun _ => False) hb) (fun x => x)⟩, fun x hx => ⟨(h.all x hx).pr.later hb, (h.all x hx).ok, (h.all x hx).id⟩, h.blks, h.rise⟩
/-- The one of a number. -/
def ofId (F : List HE) (n : Int) : Option HE := F.find? fun h => decide (h.id = n)
theorem ofId_mem {F : List HE} {n : Int} {h : HE} (hh : ofId F n = some h) : h ∈ F ∧ h.id = n := by
  unfold ofId at hh
  exact ⟨List.mem_of_find?_eq_some hh, by have := List.find?_some hh; simpa using this⟩
theorem mapP_at (F : List HE) (n : Int) (z : DataW Unit) : (mapP F).atKey (.int .i64 n) z = match ofId F n with | some h => .lit (.int .i64 (h.blk : Int)) | none => z := by
  unfold mapP DataW.atKey ofId
  simp only [List.find?_map]
  have e : ((fun p : Lit × DataW Unit => p.1.sameKey (.int .i64 n)) ∘ entP) = fun h : HE => decide (h.id = n) := by
    funext h
    show decide (_ ∧ _) = _
    simp
  rw [e]
  cases F.find? fun h => decide (h.id = n) <;> rfl
theorem tokP_inv {v : Value} {b : Nat} {ps : List MemPlace} (h : tokP v = some (.lit (.int .i64 (b : Int)), ps)) : v = .pointer (some ⟨b, 0, none⟩) := by
  unfold tokP at h
  split at h
  · simp at h
  · rename_i b'
    simp at h
    have : b' = b := by omega
    subst this
    rfl
  · cases h
theorem tokP_nil {v : Value} {ps : List MemPlace} (h : tokP v = some (.lit (.int .i64 (-1)), ps)) : v = .pointer none := by
  unfold tokP at h
  split at h
  · rfl
  · simp at h
  · cases h
theorem zeroPr (w : World) : (zeroValue 59).run Try.prog w = .ok (.pointer none) w := by kernel_rfl
def ptrH (o : Option HE) : Value := match o with | some h => .pointer (some ⟨h.blk, 0, none⟩) | none => .pointer none
def i64B (n : Int) : Prop := -9223372036854775808 ≤ n ∧ n ≤ 9223372036854775807
theorem wf_i64 {n : Int} (h : i64B n) : (Lit.int .i64 n).wf = true := by
  unfold i64B at h
  have h1 : IntKind.i64.min = -9223372036854775808 := by decide
  have h2 : IntKind.i64.max = 9223372036854775807 := by decide
  simp only [Lit.wf, h1, h2, Bool.and_eq_true, decide_eq_true_eq]
  exact h
theorem look_run {w : World} {p : Nat} {m : Option Nat} {F : List HE} (h : PdIs w p m F) (n : Int) (hn : i64B n) : (Instr.lookup 56 (.map m) (.int .i64 n) false).run Try.prog w = .ok (ptrH (ofId F n)) w := by
  rcases h.map with ⟨h1, h2⟩ | ⟨g, h1, h2⟩
  · rw [h1, h2]
    have := look_nil (w := w) false (int_keyed Try.underlying3) Try.underlying56 (zeroPr _) (keyOf_int_mk Try.underlying3 (wf_i64 hn))
    rw [show ptrH (ofId [] n) = .pointer none from rfl]
    simpa using this
  · rw [h1]
    obtain ⟨v, ps, hr, hv⟩ := h2.lookup (int_keyed Try.underlying3) Try.underlying56 (z := .pointer none) (zd := .lit (.int .i64 (-1))) (zp := []) (zeroPr _) rfl (keyOf_int_mk Try.underlying3 (wf_i64 hn))
    rw [hr, mapP_at] at *
    cases hf : ofId F n with
    | none => rw [hf] at hv; rw [tokP_nil hv]; rfl
    | some f => rw [hf] at hv; rw [tokP_inv hv]; rfl
def dp (p : Nat) : Value := .pointer (some ⟨p, 0, none⟩)
set_option maxHeartbeats 2000000 in
theorem find_c (p : Nat) (m : Option Nat) (F : List HE) (n : Int) (W : World) (h : PdIs W p m F) (hn : i64B n) : Calls Try.prog 25 #[dp p, .int .i64 n] W (fun e w' => e = .returned (ptrH (ofId F n)) ∧ w' = W) := by
  have hl := look_run h n hn
  have y0 : W.cell? ⟨p, 0, none⟩ = some (.map m) := (h.box.cell 0).trans rfl
  clear h
  unfold dp
  go_enter Try.func25, Try.ntmps25
  go_wp2
  go_ret
  exact ⟨rfl, rfl⟩
theorem find_nil (n : Int) (W : World) : Calls Try.prog 25 #[.pointer none, .int .i64 n] W (fun e w' => e = .returned (.pointer none) ∧ w' = W) := by
  go_enter Try.func25, Try.ntmps25
  go_wp2
  go_ret
  exact ⟨rfl, rfl⟩
theorem new_c (W : World) : Calls Try.prog 9 #[] W (fun e w' => e = .returned (dp W.heap.size) ∧ w' = W.alloc (.cells #[.map none] 58)) := by
  unfold dp
  go_enter Try.func9, Try.ntmps9
  go_wp2
  go_ret
  exact ⟨rfl, rfl⟩
theorem new_is (W : World) : PdIs (W.alloc (.cells #[.map none] 58)) W.heap.size none [] := ⟨Box.new _ _ _, .inl ⟨rfl, rfl⟩, (fun h hh => by cases hh), .nil, .nil⟩
/-- Epoch, as the document has it. -/
def epochG (F : List HE) (n : Int) : Int := match ofId F n with | some h => h.e | none => -1
theorem epoch_c (p : Nat) (m : Option Nat) (F : List HE) (n : Int) (W : World) (h : PdIs W p m F) (hn : i64B n) : Calls Try.prog 14 #[dp p, .int .i64 n] W (Good W (.int .i64 (epochG F n))) := by
  have cf := find_c p m F n W h hn
  unfold dp at cf
  unfold dp epochG
  cases hf : ofId F n with
  | none =>
    rw [hf] at cf
    unfold ptrH at cf
    clear h
    go_enter Try.func14, Try.ntmps14
    go_wp2_with fail
    with_reducible refine cf.mono ?_
    rintro en w1 ⟨rfl, rfl⟩
    go_wp2_with fail
    go_ret
    exact ⟨rfl, Below.refl _ _⟩
  | some x =>
    rw [hf] at cf
    unfold ptrH at cf
    obtain ⟨x0, _⟩ := (h.all x (ofId_mem hf).1).pr.cells
    clear h
    go_enter Try.func14, Try.ntmps14
    go_wp2_with fail
    with_reducible refine cf.mono ?_
    rintro en w1 ⟨rfl, rfl⟩
    go_wp2_with fail
    go_ret
    exact ⟨rfl, Below.refl _ _⟩
end Go.Proofs.Ytdhakekndinbeaa
