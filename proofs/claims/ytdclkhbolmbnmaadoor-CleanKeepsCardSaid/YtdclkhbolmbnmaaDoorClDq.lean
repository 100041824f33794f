/- clean: the last place of a key is the one that none comes after: plain words. No condition. -/
import Derived.Test.YtdclkhbolmbnmaaDoorClLa
import Derived.Test.YtdclkhbolmbnmaaDoorClLs
import Derived.Test.YtdclkhbolmbnmaaDoorClRl
namespace Go.Proofs.YtdclkhbolmbnmaaDoor
open Go.RowKit Go.Maps Go.ChangeMaps Go.WideMaps
set_option linter.unusedVariables false
def ltE (a b : TE) : Prop := a.id < b.id ∨ (a.id = b.id ∧ a.parts < b.parts)
theorem seqR_rise (i : Nat) : ∀ (j : Nat) (R : List Rec), (seqR i j R).Pairwise ltE
  | _, [] => .nil
  | j, r :: l => by
    have ih := seqR_rise i (j + 1) l
    unfold seqR
    split
    · exact ih
    · rw [List.pairwise_cons]
      refine ⟨fun e he => ?_, ih⟩
      obtain ⟨m, q, h1, h2, _⟩ := seqR_at he
      refine .inr ⟨h1.symm, ?_⟩
      show (j : Int) < e.parts
      rw [h2]
      omega
theorem seqL_rise : ∀ (i : Nat) (B : List (List Rec)), (seqL i B).Pairwise ltE
  | _, [] => .nil
  | i, R :: l => by
    show (seqR i 0 R ++ seqL (i + 1) l).Pairwise ltE
    rw [List.pairwise_append]
    refine ⟨seqR_rise i 0 R, seqL_rise (i + 1) l, fun a ha b hb => ?_⟩
    obtain ⟨m, q, h1, _⟩ := seqR_at ha
    obtain ⟨n, m2, R2, r2, h2, _⟩ := seqL_at hb
    refine .inl ?_
    rw [h1, h2]
    omega
theorem seqR_mem {i : Nat} : ∀ {j m : Nat} {R : List Rec} {r : Rec}, R[m]? = some r → r.bare = false → (⟨keyB r, i, ((j + m : Nat) : Int)⟩ : TE) ∈ seqR i j R
  | j, 0, q :: l, r, h, hb => by
    have : q = r := by simpa using h
    subst this
    unfold seqR
    rw [hb, if_neg (by decide)]
    exact List.mem_cons_self ..
  | j, m + 1, q :: l, r, h, hb => by
    have ih := seqR_mem (i := i) (j := j + 1) (m := m) (R := l) (r := r) (by simpa using h) hb
    rw [show j + 1 + m = j + (m + 1) by omega] at ih
    unfold seqR
    split
    · exact ih
    · exact List.mem_cons_of_mem _ ih
theorem seqL_mem : ∀ {i n m : Nat} {B : List (List Rec)} {R : List Rec} {r : Rec}, B[n]? = some R → R[m]? = some r → r.bare = false → (⟨keyB r, ((i + n : Nat) : Int), m⟩ : TE) ∈ seqL i B
  | i, 0, m, Q :: l, R, r, h, hr, hb => by
    have : Q = R := by simpa using h
    subst this
    have h1 := seqR_mem (i := i) (j := 0) hr hb
    rw [Nat.zero_add] at h1
    exact List.mem_append.2 (.inl h1)
  | i, n + 1, m, Q :: l, R, r, h, hr, hb => by
    have ih := seqL_mem (i := i + 1) (n := n) (B := l) (by simpa using h) hr hb
    rw [show i + 1 + n = i + (n + 1) by omega] at ih
    exact List.mem_append.2 (.inr ih)
theorem find_top {R : TE → TE → Prop} {p : TE → Bool} : ∀ {T : List TE} {e e' : TE}, T.Pairwise (fun a b => R b a) → T.find? p = some e → e' ∈ T → p e' = true → e' = e ∨ R e' e
  | t :: T, e, e', hp, hf, hm, he => by
    rw [List.pairwise_cons] at hp
    by_cases ht : p t = true
    · rw [List.find?_cons_of_pos ht] at hf
      injection hf with hf
      subst hf
      rcases List.mem_cons.1 hm with rfl | hm
      · exact .inl rfl
      · exact .inr (hp.1 e' hm)
    · rw [List.find?_cons_of_neg ht] at hf
      rcases List.mem_cons.1 hm with rfl | hm
      · exact absurd he ht
      · exact find_top hp.2 hf hm he
theorem lastN_top {B : List (List Rec)} {s : List UInt8} {e e' : TE} (h : lastN (seqL 0 B) s = some e) (hm : e' ∈ seqL 0 B) (hn : e'.name = s) : e' = e ∨ ltE e' e :=
  find_top (R := ltE) (List.pairwise_reverse.2 (seqL_rise 0 B)) h (List.mem_reverse.2 hm) (by simp [hn])
theorem lastN_some {S : List TE} {e : TE} {s : List UInt8} (h : e ∈ S) (hn : e.name = s) : ∃ e', lastN S s = some e' := by
  cases hl : lastN S s with
  | some e' => exact ⟨e', rfl⟩
  | none =>
    unfold lastN at hl
    have := List.find?_eq_none.1 hl e (List.mem_reverse.2 h)
    simp [hn] at this
theorem bxR_at {L : List BX} {n m : Nat} {x : BX} {y : RX} (hx : L[n]? = some x) (hy : x.2.1[m]? = some y) : (L.map bxR)[n]? = some (bxR x) ∧ (bxR x)[m]? = some y.1 := by
  refine ⟨by rw [List.getElem?_map, hx]; rfl, ?_⟩
  show (x.2.1.map _)[m]? = _
  rw [List.getElem?_map, hy]
  rfl
/-- The last place of its key stands there: none comes after it. -/
theorem place_later {L : List BX} {i j : Nat} {x : BX} {y : RX} (hx : L[i]? = some x) (hy : x.2.1[j]? = some y) (hb : y.1.bare = false) :
    (lookA (ofN (lastF (L.map bxR)) (keyB y.1)) == (i : Int) && lookC (ofN (lastF (L.map bxR)) (keyB y.1)) == (j : Int)) = true ↔ ¬ LaterP L i j y.1.key := by
  rw [ofN_last]
  have h1 := seqL_mem (i := 0) (bxR_at hx hy).1 (bxR_at hx hy).2 hb
  rw [Nat.zero_add] at h1
  obtain ⟨e, he⟩ := lastN_some (s := keyB y.1) h1 rfl
  rw [he]
  show (e.id == (i : Int) && e.parts == (j : Int)) = true ↔ _
  rw [Bool.and_eq_true, beq_iff_eq, beq_iff_eq]
  have htop := lastN_top he h1 rfl
  obtain ⟨n, q, R, r, g1, g2, g3, g4, g5, g6⟩ := seqL_at (lastN_mem he).1
  rw [Nat.zero_add] at g1
  constructor
  · rintro ⟨e1, e2⟩ ⟨n', q', x', y', k1, k2, k3, k4, k5⟩
    have h2 := seqL_mem (i := 0) (bxR_at k1 k2).1 (bxR_at k1 k2).2 k3
    rw [Nat.zero_add] at h2
    rcases lastN_top he h2 (by show keyB y'.1 = _; unfold keyB; rw [k4]) with h3 | h3
    · have a1 := congrArg TE.id h3
      have a2 := congrArg TE.parts h3
      simp only at a1 a2
      omega
    · rcases h3 with h3 | ⟨h3, h4⟩
      · have : (n' : Int) < e.id := h3
        omega
      · have : (n' : Int) = e.id := h3
        have : (q' : Int) < e.parts := h4
        omega
  · intro hno
    rcases htop with h3 | h3
    · exact ⟨(congrArg TE.id h3).symm, (congrArg TE.parts h3).symm⟩
    · exfalso
      apply hno
      rw [List.getElem?_map] at g3
      cases hLn : L[n]? with
      | none => rw [hLn] at g3; cases g3
      | some x' =>
        rw [hLn] at g3
        have g3' : bxR x' = R := by injection g3
        subst g3'
        have g4' : (x'.2.1.map (·.1))[q]? = some r := g4
        rw [List.getElem?_map] at g4'
        cases hLq : x'.2.1[q]? with
        | none => rw [hLq] at g4'; cases g4'
        | some y' =>
          rw [hLq] at g4'
          have g5' : y'.1 = r := by injection g4'
          subst g5'
          have hk : keyB y'.1 = keyB y.1 := g6.symm.trans (lastN_mem he).2
          refine ⟨n, q, x', y', hLn, hLq, g5, key_eq.1 hk, ?_⟩
          rcases h3 with h3 | ⟨h3, h4⟩
          · have : (i : Int) < e.id := h3
            omega
          · have : (i : Int) = e.id := h3
            have : (j : Int) < e.parts := h4
            omega
end Go.Proofs.YtdclkhbolmbnmaaDoor
