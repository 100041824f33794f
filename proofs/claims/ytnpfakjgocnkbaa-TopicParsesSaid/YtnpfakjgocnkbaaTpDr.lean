/- topic: how the document reads, against how the program does: plain math. No condition. -/
import Derived.Test.YtnpfakjgocnkbaaTpNu
namespace Go.Proofs.Ytnpfakjgocnkbaa
open Go.RowKit
set_option linter.unusedVariables false
/-- What within says: the number, the place, the error. -/
def dnT (s : ByteArray) (l m q e : Int) : Int × Int × Int := if (rdN s q e).2.2 = 0 ∧ ((rdN s q e).1 < l ∨ m < (rdN s q e).1) then ((rdN s q e).1, (rdN s q e).2.1, 3) else rdN s q e
theorem dnT_err {s : ByteArray} {l m q e : Int} (h : e ≠ 0) : dnT s l m q e = (0, q, e) := by
  unfold dnT
  rw [rdN_err h, if_neg (fun x => h x.1)]
theorem dn_nu (s : ByteArray) (l m q e : Int) : (dnT s l m q e).2.2 = (nuT s l m q e).2.2 ∧ ((nuT s l m q e).2.2 = 0 → dnT s l m q e = nuT s l m q e) := by
  by_cases he : e = 0
  · subst he
    unfold dnT nuT rdN
    rw [if_pos rfl, if_pos rfl]
    generalize getG s q = g
    obtain ⟨n, p, er⟩ := g
    simp only
    by_cases hr : er = 0
    · subst hr
      rw [if_pos rfl]
      unfold witB
      by_cases hb : n < l ∨ m < n
      · rw [if_pos ⟨rfl, hb⟩, if_neg (by simp; omega)]
        exact ⟨rfl, fun h => by cases h⟩
      · rw [if_neg (fun x => hb x.2), if_pos (by simp; omega)]
        exact ⟨rfl, fun _ => rfl⟩
    · rw [if_neg (fun x => hr x.1), if_neg hr]
      exact ⟨rfl, fun h => absurd h hr⟩
  · rw [dnT_err he, nuT_err he]
    exact ⟨rfl, fun _ => rfl⟩
/-- Behind an error nothing changes it. -/
theorem itT_latch {s : ByteArray} {n : Int} {t : RS} {j : Nat} {e : Int} (he : e ≠ 0) (h : (itT s n t j).2.2.2 = e) : ∀ k, j ≤ k → (itT s n t k).2.2.2 = e
  | 0, hk => by
    have : j = 0 := by omega
    subst this
    exact h
  | k + 1, hk => by
    by_cases hj : j = k + 1
    · subst hj; exact h
    · have ih := itT_latch he h k (by omega)
      show (stT s n (itT s n t k)).2.2.2 = e
      rw [stT_err (by rw [ih]; exact he), ih]
/-- While the topics are read. -/
def DT (s : ByteArray) (n N : Int) (i : Nat) (F : List TE) (q e : Int) : Prop :=
  F.length = i ∧ F.length ≤ 20 ∧ (e ≠ 0 → (tbT s).2.2.2.2 = e) ∧
  (e = 0 → (0 ≤ N ∧ N ≤ 20) ∧ (i : Int) ≤ N ∧ (0 ≤ n ∧ n ≤ 1073741824) ∧ (F.Pairwise fun a b => bytesBefore a.name b.name = true) ∧ ∃ (a : ByteArray) (q0 : Int), a.data.toList = lastN F ∧ itT s n ([], ⟨#[]⟩, q0, 0) i = (F, a, q, 0) ∧ tbT s = (n, itT s n ([], ⟨#[]⟩, q0, 0) N.toNat))
theorem dt_start {s : ByteArray} {n q1 e1 N q2 e2 : Int} (h1 : dnT s 0 1073741824 0 0 = (n, q1, e1)) (h2 : dnT s 0 20 q1 e1 = (N, q2, e2)) : DT s n N 0 [] q2 e2 := by
  obtain ⟨a1, a2⟩ := dn_nu s 0 1073741824 0 0
  unfold DT tbT
  refine ⟨rfl, by decide, ?_⟩
  by_cases ha : (nuT s 0 1073741824 0 0).2.2 = 0
  · rw [a2 ha] at h1
    have hin1 := nuT_in s 0 1073741824 0 0
    rw [h1] at ha hin1 ⊢
    simp only at ha hin1
    subst ha
    obtain ⟨b1, b2⟩ := dn_nu s 0 20 q1 0
    rw [h2] at b1 b2
    simp only at b1 b2 ⊢
    refine ⟨fun hne => ?_, fun hz => ?_⟩
    · refine itT_latch (j := 0) hne ?_ _ (Nat.zero_le _)
      exact b1.symm
    subst hz
    have hb := b2 b1.symm
    have hin := nuT_in s 0 20 q1 0
    rw [← hb] at hin ⊢
    simp only at hin ⊢
    exact ⟨by omega, by omega, by omega, .nil, ⟨#[]⟩, q2, rfl, rfl, rfl⟩
  · have he1 : e1 ≠ 0 := by rw [h1] at a1; simp only at a1; rw [a1]; exact ha
    rw [dnT_err he1] at h2
    injection h2 with _ h2
    injection h2 with h3 h4
    refine ⟨fun _ => ?_, fun hz => absurd (h4.trans hz) he1⟩
    rw [nuT_err ha]
    simp only
    refine itT_latch (j := 0) (h4 ▸ he1) ?_ _ (Nat.zero_le _)
    show (nuT s 0 1073741824 0 0).2.2 = e2
    rw [← h4]
    rw [h1] at a1
    exact a1.symm
theorem dt_step {s : ByteArray} {n N q : Int} {i : Nat} {F : List TE} (h : DT s n N i F q 0) (hi : (i : Int) < N) {nm : ByteArray} {p e3 id q4 e4 pt q5 e5 : Int} (h1 : naT s (lastN F) q 0 = (nm, p, e3)) (h2 : dnT s 0 (n - 1) p e3 = (id, q4, e4)) (h3 : dnT s 1 16 q4 e4 = (pt, q5, e5)) :
    DT s n N (i + 1) (F ++ [⟨nm.data.toList, id, pt⟩]) q5 e5 := by
  obtain ⟨hl, hl20, _, h0⟩ := h
  obtain ⟨hN, hiN, hn, hr, a, q0, ha, hit, htb⟩ := h0 rfl
  have hs : itT s n ([], ⟨#[]⟩, q0, 0) (i + 1) = stT s n (F, a, q, 0) := by
    show stT s n (itT s n ([], ⟨#[]⟩, q0, 0) i) = _
    rw [hit]
  obtain ⟨b1, b2⟩ := dn_nu s 0 (n - 1) p e3
  obtain ⟨c1, c2⟩ := dn_nu s 1 16 q4 e4
  rw [h2] at b1 b2
  rw [h3] at c1 c2
  simp only at b1 b2 c1 c2
  have hen : (enT s (n - 1) p e3).2.2 = e5 ∧ (e5 = 0 → enT s (n - 1) p e3 = ((id, pt), q5, 0)) := by
    unfold enT
    by_cases hz : e4 = 0
    · have hb := b2 (b1.symm.trans hz)
      rw [← hb]
      simp only
      refine ⟨c1.symm, fun h5 => ?_⟩
      have hc := c2 (c1.symm.trans h5)
      rw [← hc]
      simp only
      rw [h5]
    · rw [dnT_err hz] at h3
      injection h3 with _ h3
      injection h3 with _ h5
      have hne : (nuT s 0 (n - 1) p e3).2.2 ≠ 0 := by rw [← b1]; exact hz
      rw [nuT_err hne]
      simp only
      refine ⟨?_, fun h6 => absurd (h5.trans h6) hz⟩
      rw [← b1, h5]
  have hst : (stT s n (F, a, q, 0)).2.2.2 = e5 := by
    unfold stT
    simp only
    rw [ha, h1]
    exact hen.1
  refine ⟨by simp [hl], by rw [List.length_append, hl]; show i + 1 ≤ 20; omega, fun hne => ?_, fun hz => ?_⟩
  · rw [htb]
    exact itT_latch (j := i + 1) hne (by rw [hs]; exact hst) _ (by omega)
  · have he := hen.2 hz
    have he3 : e3 = 0 := enT_back (by rw [he])
    have hab : bytesBefore (lastN F) nm.data.toList = true := by
      have := (naT_ok (s := s) (a := lastN F) (q := q) (e := 0) (by rw [h1]; exact he3)).2.2.2
      rw [h1] at this
      exact this
    have hst2 : stT s n (F, a, q, 0) = (F ++ [⟨nm.data.toList, id, pt⟩], nm, q5, 0) := by
      unfold stT
      simp only
      rw [ha, h1]
      simp only
      rw [he, putT_end (above_all hr hab)]
    refine ⟨hN, by omega, hn, ?_, nm, q0, by rw [lastN_snoc], by rw [hs, hst2], htb⟩
    rw [List.pairwise_append]
    refine ⟨hr, List.pairwise_singleton _ _, fun g hg y hy => ?_⟩
    have : y = ⟨nm.data.toList, id, pt⟩ := by simpa using hy
    rw [this]
    exact above_all hr hab g hg
/-- An error of the form, if this is so. -/
def erE (e : Int) (b : Bool) : Int := if e = 0 ∧ b = true then 3 else e
theorem erE_false (e : Int) : erE e false = e := by unfold erE; rw [if_neg (fun h => by cases h.2)]
theorem erE_or (e : Int) (b c : Bool) : erE (erE e b) c = erE e (b || c) := by
  unfold erE
  by_cases he : e = 0
  · subst he
    cases b <;> cases c <;> simp
  · simp [he]
theorem twB_snoc (F : List TE) (x : TE) : twB (F ++ [x]) = (twB F || F.any (fun y => y.id == x.id)) := by
  unfold twB
  rw [Bool.eq_iff_iff]
  simp only [List.map_append, List.map_cons, List.map_nil, List.nodup_append, Bool.not_eq_true', decide_eq_false_iff_not, Bool.or_eq_true, List.any_eq_true, beq_iff_eq]
  constructor
  · intro h
    by_cases hn : (F.map (·.id)).Nodup
    · right
      apply Classical.byContradiction
      intro hno
      refine h ⟨hn, by simp, fun a ha b hb => ?_⟩
      obtain ⟨y, hy, rfl⟩ := List.mem_map.1 ha
      have : b = x.id := by simpa using hb
      rw [this]
      exact fun e => hno ⟨y, hy, e⟩
    · exact .inl hn
  · rintro (h | ⟨y, hy, e⟩) ⟨h1, _, h3⟩
    · exact h h1
    · exact h3 y.id (List.mem_map.2 ⟨y, hy, rfl⟩) x.id (by simp) e
theorem tk_snoc {α : Type} {L : List α} {k : Nat} {x : α} (h : L[k]? = some x) : L.take (k + 1) = L.take k ++ [x] := by rw [List.take_add_one, h]; rfl
/-- Have two of the first i the same id, or has one of the first k the id of the one at i? -/
def dupB (F : List TE) (x : TE) (i k : Nat) : Bool := twB (F.take i) || (F.take k).any (fun y => y.id == x.id)
theorem dupB_zero (F : List TE) (x : TE) (i : Nat) : dupB F x i 0 = twB (F.take i) := by unfold dupB; simp
theorem dupB_snoc {F : List TE} {x y : TE} {i k : Nat} (h : F[k]? = some y) : dupB F x i (k + 1) = (dupB F x i k || (y.id == x.id)) := by
  unfold dupB
  rw [tk_snoc h, List.any_append]
  simp [Bool.or_assoc]
theorem dupB_end {F : List TE} {x : TE} {i : Nat} (h : F[i]? = some x) : dupB F x i i = twB (F.take (i + 1)) := by
  unfold dupB
  rw [tk_snoc h, twB_snoc]
theorem twB_nil : twB [] = false := rfl
/-- What Parse comes to. -/
theorem dt_fin {s : ByteArray} {n N q e : Int} {i : Nat} {F : List TE} (h : DT s n N i F q e) (hi : e ≠ 0 ∨ ¬ (i : Int) < N) : erE (erE e (q != (s.size : Int))) (twB F) = paT s ∧ (paT s = 0 → (tbT s).1 = n ∧ (tbT s).2.1 = F) := by
  obtain ⟨hl, hl20, he, h0⟩ := h
  by_cases hz : e = 0
  · subst hz
    obtain ⟨hN, hiN, hn, hr, a, q0, ha, hit, htb⟩ := h0 rfl
    have hNi : N.toNat = i := by have := hi.resolve_left (fun x => x rfl); omega
    rw [hNi, hit] at htb
    refine ⟨?_, fun _ => by rw [htb]; exact ⟨rfl, rfl⟩⟩
    unfold paT demE
    rw [erE_or, htb]
    simp only
    unfold erE
    cases twB F <;> by_cases hq : q = (s.size : Int) <;> simp [hq]
  · have := he hz
    refine ⟨?_, fun hp => ?_⟩
    · unfold erE paT demE
      rw [this]
      simp [hz]
    · exfalso
      unfold paT demE at hp
      rw [this, if_neg (fun h => hz h.1)] at hp
      exact hz hp
end Go.Proofs.Ytnpfakjgocnkbaa
