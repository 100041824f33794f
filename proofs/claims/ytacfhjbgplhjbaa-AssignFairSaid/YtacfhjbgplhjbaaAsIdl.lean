/- assign: AssignIdle, walked. No condition. -/
import Derived.Test.YtacfhjbgplhjbaaAsOne
import Derived.Deep.Cut
import Derived.Deep.CutRange
import Derived.Lib.AppendZeros
namespace Go.Proofs.Ytacfhjbgplhjbaa
open Go.RowKit
set_option linter.unusedVariables false
/-- Members, as cells. -/
def sbsC (L : List SX) : List Value := L.flatMap fun x => [.int .i64 x.1, .slice x.2.2.1 x.2.1.length x.2.2.2]
theorem sbsC_len (L : List SX) : (sbsC L).length = L.length * 2 := by
  induction L with
  | nil => rfl
  | cons a L ih => rw [sbsC, List.flatMap_cons, List.length_append, ← sbsC, ih]; simp; omega
theorem sbsC_at {L : List SX} {j : Nat} {x : SX} (h : L[j]? = some x) : (sbsC L)[j * 2]? = some (.int .i64 x.1) ∧ (sbsC L)[j * 2 + 1]? = some (.slice x.2.2.1 x.2.1.length x.2.2.2) := by
  induction L generalizing j with
  | nil => simp at h
  | cons a L ih =>
    have e : sbsC (a :: L) = .int .i64 a.1 :: .slice a.2.2.1 a.2.1.length a.2.2.2 :: sbsC L := rfl
    rw [e]
    cases j with
    | zero => simp at h; subst h; exact ⟨rfl, rfl⟩
    | succ j => have := ih (j := j) (by simpa using h); rw [show (j + 1) * 2 = j * 2 + 1 + 1 by omega]; simpa using this
theorem sbsC_app (L M : List SX) : sbsC (L ++ M) = sbsC L ++ sbsC M := by simp [sbsC]
theorem sbsC_one (L : List SX) : ∀ u ∈ sbsC L, u.oneCell' = true := by
  intro u hu
  simp only [sbsC, List.mem_flatMap] at hu
  obtain ⟨x, _, hx⟩ := hu
  simp at hx
  rcases hx with rfl | rfl <;> rfl
theorem sb_news {w : World} {q o : Nat} {N : List SX} (h : SbIn w (some ⟨q, o, none⟩) N) : ∀ j u, (sbsC N)[j]? = some u → w.cell? ((⟨q, o, none⟩ : Addr).add j) = some u := by
  intro j u hu
  have e1 : (⟨q, o, none⟩ : Addr).add j = ⟨q, o + j, none⟩ := by unfold Addr.add; split <;> simp_all
  rw [e1]
  have hj : j < N.length * 2 := by rw [← sbsC_len]; exact (List.getElem?_eq_some_iff.1 hu).1
  obtain ⟨b, off, e, hlt, hc⟩ := h (by omega)
  injection e with e
  injection e with e e'
  subst e; subst e'
  have hx : N[j / 2]? = some (N[j / 2]'(by omega)) := List.getElem?_eq_getElem (by omega)
  obtain ⟨⟨h1, h2⟩, _⟩ := hc _ _ hx
  obtain ⟨p1, p2⟩ := sbsC_at hx
  rcases Nat.mod_two_eq_zero_or_one j with hm | hm
  · rw [show j / 2 * 2 = j by omega] at p1 h1
    rw [p1] at hu
    injection hu with hu
    rw [← hu]; exact h1
  · rw [show j / 2 * 2 + 1 = j by omega] at p2
    rw [show o + j / 2 * 2 + 1 = o + j by omega] at h2
    rw [p2] at hu
    injection hu with hu
    rw [← hu]; exact h2
theorem infoSub : (Try.prog.info? 44).map (fun i => (i.zero, i.size, i.bytes)) = some (some (.agg #[.int .i64 0, .slice none 0 0]), 2, 32) := by kernel_rfl
/-- A copy of the members in a row of its own. -/
theorem app_subs (S : List SX) (A : Option Addr) (c : Nat) (W : World) (hS : SbIn W A S) (hl : S.length ≤ 1000) : ∃ (B : Option Addr) (e : Nat) (w' : World), (Builtin.append_ #[22, 22] 22 #[.slice none 0 0, .slice A S.length c]).run Try.prog W = .ok (.slice B S.length e) w' ∧
    w'.ownsRow W.heap.size 44 2 (.slice B S.length e) S.length (sbsC S) ∧ Below W.heap.size W w' := by
  obtain ⟨i0, hi, hz0, hz1, hz2⟩ := info_parts infoSub
  by_cases hA : ∃ q o, A = some ⟨q, o, none⟩
  · obtain ⟨q, o, rfl⟩ := hA
    obtain ⟨v', w', h1, h2, h3, h4, h5⟩ := run_append_own_at (P := Try.prog) (w := W) W.heap.size 22 22 44 i0 _ 2 32 Try.underlying22 hi hz0 hz1 hz2 rfl (by decide) (.slice none 0 0) 0 [] (World.ownsRow_nil _ _ _ _) ⟨q, o, none⟩ S.length c (sbsC S) (sbsC_len S) (sb_news hS) (sbsC_one S) (by unfold maxLen; omega) (by omega) (Nat.le_refl _)
    rw [List.nil_append, Nat.zero_add] at h2
    obtain ⟨B, e, rfl⟩ := own_slice h2
    exact ⟨B, e, w', h1, h2, (Below.refl _ _).grown h3 (Nat.le_refl _) (fun j e => by cases e)⟩
  · have hS0 : S.length = 0 := by
      by_cases h0 : 0 < S.length
      · obtain ⟨b, off, e, _⟩ := hS h0
        exact absurd ⟨b, off, e⟩ hA
      · omega
    have hS1 : S = [] := List.length_eq_zero_iff.1 hS0
    subst hS1
    refine ⟨none, 0, W, ?_, World.ownsRow_nil _ _ _ _, Below.refl _ _⟩
    cases A with
    | none => simp [Builtin.append_, run_underlying Try.underlying22, sizeOf, typeInfo, hi, Builtin.lenOf, Builtin.firstCells]
    | some a => simp [Builtin.append_, run_underlying Try.underlying22, sizeOf, typeInfo, hi, Builtin.lenOf, Builtin.firstCells, loadCells, loadCellsFrom]
theorem sbs_in {w : World} {base c : Nat} {A : Option Addr} {L : List SX} (h : w.ownsRow base 44 2 (.slice A L.length c) L.length (sbsC L)) (hs : ∀ x ∈ L, StrIn w x.2.2.1 x.2.1) : SbIn w A L := fun hp => by
  obtain ⟨g, e, hlt, _, _, hc⟩ := own_in h hp
  exact ⟨g, 0, e, hlt, fun j x hx => by rw [Nat.zero_add]; exact ⟨⟨hc _ _ (sbsC_at hx).1, hc _ _ (sbsC_at hx).2⟩, hs x (List.mem_of_getElem? hx)⟩⟩
theorem SbIn.strs {w : World} {A : Option Addr} {L : List SX} (h : SbIn w A L) : ∀ x ∈ L, StrIn w x.2.2.1 x.2.1 := fun x hx => by
  obtain ⟨k, hk⟩ := List.getElem?_of_mem hx
  obtain ⟨b, off, _, _, hc⟩ := h (by have := (List.getElem?_eq_some_iff.1 hk).1; omega)
  exact (hc k x hk).2
/-- A member more, that wants nothing. -/
def moreS (S : List SX) (l : Int) : List SX := S ++ [(l, [], none, 0)]
theorem moreS_len (S : List SX) (l : Int) : (moreS S l).length = S.length + 1 := by simp [moreS]
theorem takersG_more (S : List SX) (l : Int) (s : ByteArray) : takersG (moreS S l) s (moreS S l).length = takersG S s S.length := by
  rw [moreS_len, takersG_no (x := (l, [], none, 0)) (by simp [moreS]) rfl]
  unfold takersG
  refine List.filter_congr fun i hi => ?_
  have hi' := List.mem_range.1 hi
  unfold moreS
  rw [List.getElem?_append_left hi']
theorem rangeD_more (S : List SX) (l : Int) (T : List TX) : rangeD (moreS S l) T = rangeD S T := by
  have : stepR (moreS S l) = stepR S := by
    funext D t
    unfold stepR
    rw [takersG_more]
  unfold rangeD
  rw [this]
theorem roundD_more (S : List SX) (l : Int) (T : List TX) : roundD (moreS S l) T = roundD S T := by
  have : stepO (moreS S l) = stepO S := by
    funext D t
    unfold stepO
    rw [takersG_more]
  unfold roundD
  rw [this]
theorem dealK_far {L : List Nat} {s : ByteArray} {n : Nat} {D : Nat → List TX} {k : Nat} (hk : ∀ m ∈ L, m ≠ k) : ∀ j, dealK L s n D j k = D k
  | 0 => rfl
  | j + 1 => by
    cases hm : L[j]? with
    | none => rw [dealK, hm]; exact dealK_far hk j
    | some m =>
      rw [dealK_succ hm, updD_ne _ _ (fun e => hk m (List.mem_of_getElem? hm) e.symm)]
      exact dealK_far hk j
theorem rangeD_far (S : List SX) (T : List TX) (k : Nat) (hk : S.length ≤ k) : rangeD S T k = [] := by
  have key : ∀ (T : List TX) (D : Nat → List TX), D k = [] → T.foldl (stepR S) D k = [] := by
    intro T
    induction T with
    | nil => exact fun D h => h
    | cons t T ih =>
      intro D h
      refine ih _ ?_
      unfold stepR
      rw [dealK_far (fun m hm e => by have := (takersG_mem.1 hm).1; omega)]
      exact h
  exact key T _ rfl
theorem dealP_far {L : List Nat} {s : ByteArray} {st : (Nat → List TX) × Int} {k : Nat} (h0 : 0 < L.length) (hk : ∀ m ∈ L, m ≠ k) : ∀ p, (dealP L s st p).1 k = st.1 k
  | 0 => rfl
  | p + 1 => by
    rw [dealP]
    simp only
    rw [updD_ne _ _ (fun e => hk _ (behG_mem h0 _) e.symm)]
    exact dealP_far h0 hk p
theorem roundD_far (S : List SX) (T : List TX) (k : Nat) (hk : S.length ≤ k) : (roundD S T).1 k = [] := by
  have key : ∀ (T : List TX) (st : (Nat → List TX) × Int), st.1 k = [] → (T.foldl (stepO S) st).1 k = [] := by
    intro T
    induction T with
    | nil => exact fun D h => h
    | cons t T ih =>
      intro st h
      refine ih _ ?_
      unfold stepO
      split
      · exact h
      · rw [dealP_far (by omega) (fun m hm e => by have := (takersG_mem.1 hm).1; omega)]
        exact h
  exact key T _ rfl
theorem shL_more (S : List SX) (l : Int) (D : Nat → List TX) : (shL ((moreS S l).map (·.1)) D).take S.length = shL (S.map (·.1)) D := by
  apply List.ext_getElem?
  intro k
  by_cases hk : k < S.length
  · rw [List.getElem?_take, if_pos hk, shL_at (m := S[k].1) (by unfold moreS; rw [List.map_append, List.getElem?_append_left (by simpa using hk)]; simp [hk]), shL_at (m := S[k].1) (by simp [hk])]
  · rw [List.getElem?_take, if_neg hk, List.getElem?_eq_none (by rw [shL_len, List.length_map]; omega)]
/-- The number of the member more. -/
def lastM (S : List SX) : Int := match S.getLast? with | some x => x.1 + 1 | none => 0
theorem lastM_nil : lastM [] = 0 := rfl
theorem lastM_at {S : List SX} {k : Nat} {x : SX} (h : S[k]? = some x) (hk : k + 1 = S.length) : lastM S = x.1 + 1 := by
  unfold lastM
  rw [List.getLast?_eq_getElem?, show S.length - 1 = k by omega, h]
theorem more_ok {S : List SX} {T : List TX} (hk : chkE S T = 0) (hl : S.length ≤ 19) (hm : ¬ 1073741824 < lastM S) : chkE (moreS S (lastM S)) T = 0 := by
  obtain ⟨h1, h2⟩ := chk_ok hk
  obtain ⟨q1, q2, q3⟩ := mayS_iff.1 h1
  refine chk_both (mayS_iff.2 ⟨by rw [moreS_len]; omega, fun x hx => ?_, ?_⟩) h2
  · unfold moreS at hx
    rcases List.mem_append.1 hx with hx | hx
    · exact q2 x hx
    · have : x = (lastM S, [], none, 0) := by simpa using hx
      subst this
      have h0 : 0 ≤ lastM S := by
        unfold lastM
        cases hg : S.getLast? with
        | none => exact Int.le_refl _
        | some y =>
          have hy := q2 y (List.mem_of_getLast? hg)
          unfold okS at hy
          simp only [Bool.and_eq_true, decide_eq_true_eq] at hy
          show 0 ≤ y.1 + 1
          omega
      exact okS_parts (by omega) hm (by simp) rfl
  · rw [rises_iff] at q3 ⊢
    intro i a b ha hb
    unfold moreS at ha hb
    by_cases hi : i + 1 < S.length
    · rw [List.getElem?_append_left (by omega)] at ha
      rw [List.getElem?_append_left hi] at hb
      exact q3 i a b ha hb
    · have hbl := (List.getElem?_eq_some_iff.1 hb).1
      simp only [List.length_append, List.length_cons, List.length_nil] at hbl
      have hie : i + 1 = S.length := by omega
      rw [List.getElem?_append_left (by omega)] at ha
      rw [hie, List.getElem?_append_right (Nat.le_refl _), Nat.sub_self] at hb
      have hb' : (lastM S, [], none, 0) = b := by simpa using hb
      subst hb'
      refine decide_eq_true ?_
      rw [lastM_at ha hie]
      show a.1 < a.1 + 1
      omega
end Go.Proofs.Ytacfhjbgplhjbaa
