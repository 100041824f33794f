/- clean: records that have no key stay, by the law's own walk. No condition. -/
import Derived.Test.YtdclkhbolmbnmaaDoorClFw
import Derived.Test.YtdclkhbolmbnmaaDoorClB
import Derived.Test.YtdclkhbolmbnmaaDoorClMn
namespace Go.Proofs.YtdclkhbolmbnmaaDoor
open Go.RowKit Go.Maps Go.ChangeMaps Go.WideMaps
set_option linter.unusedVariables false
def bareN (R : List Rec) : Nat := R.countP (·.bare)
def sumB : List (BN × List Rec) → Nat
  | [] => 0
  | x :: l => bareN x.2 + sumB l
theorem sumB_app (l m : List (BN × List Rec)) : sumB (l ++ m) = sumB l + sumB m := by
  induction l with
  | nil => show _ = 0 + _; rw [Nat.zero_add]; rfl
  | cons x l ih => show bareN x.2 + sumB (l ++ m) = bareN x.2 + sumB l + sumB m; rw [ih]; omega
theorem sumB_step {l : List (BN × List Rec)} {k : Nat} {x : BN × List Rec} (hx : l[k]? = some x) : sumB (l.take (k + 1)) = sumB (l.take k) + bareN x.2 := by
  rw [List.take_add_one, hx, sumB_app]
  rfl
theorem bareN_step {R : List Rec} {m : Nat} {r : Rec} (hr : R[m]? = some r) : bareN (R.take (m + 1)) = bareN (R.take m) + if r.bare then 1 else 0 := by
  unfold bareN
  rw [List.take_add_one, hr, List.countP_append]
  show _ + List.countP _ [r] = _
  rw [List.countP_singleton]
theorem bareN_le (R : List Rec) : bareN R ≤ R.length := List.countP_le_length
theorem bareN_keep (F : List TE) (i before : Int) : ∀ (j : Nat) (R : List Rec), bareN (keepL (dropQ F i before) j R) = bareN R
  | _, [] => rfl
  | j, r :: l => by
    have ih := bareN_keep F i before (j + 1) l
    unfold keepL
    split
    · rename_i h
      have hb : r.bare = false := by
        unfold dropQ at h
        simp at h
        exact h.1
      rw [ih]
      unfold bareN
      rw [List.countP_cons, hb]
      simp
    · unfold bareN at ih ⊢
      rw [List.countP_cons, List.countP_cons, ih]
theorem sumB_clnB (F : List TE) (P : List Pr.HE) (upto before : Int) (i : Nat) (x : BN × List Rec) : sumB (clnB F P upto before i x) = bareN x.2 := by
  have h := bareN_keep F i before 0 x.2
  unfold clnB
  split
  · show bareN x.2 + 0 = _; omega
  · split
    · show bareN (keepL _ 0 x.2) + 0 = _; omega
    · rename_i hc
      simp at hc
      have h1 := bareN_le (keepL (dropQ F i before) 0 x.2)
      have h2 : (keepL (dropQ F i before) 0 x.2).length = 0 := by rw [hc.1]; rfl
      show 0 = _
      omega
theorem sumB_clnL (F : List TE) (P : List Pr.HE) (upto before : Int) : ∀ (i : Nat) (l : List (BN × List Rec)), sumB (clnL F P upto before i l) = sumB l
  | _, [] => rfl
  | i, x :: l => by
    show sumB (_ ++ _) = bareN x.2 + sumB l
    rw [sumB_app, sumB_clnB, sumB_clnL F P upto before (i + 1) l]
theorem keepL_all {p : Rec → Prop} {f : Nat → Rec → Bool} : ∀ {j : Nat} {R : List Rec}, (∀ r ∈ R, p r) → ∀ r ∈ keepL f j R, p r
  | _, [], _, r, hr => by cases hr
  | j, q :: l, h, r, hr => by
    unfold keepL at hr
    split at hr
    · exact keepL_all (fun r hr => h r (by simp [hr])) r hr
    · rcases List.mem_cons.1 hr with rfl | hr
      · exact h _ (by simp)
      · exact keepL_all (fun r hr => h r (by simp [hr])) r hr
theorem keepL_len {f : Nat → Rec → Bool} : ∀ (j : Nat) (R : List Rec), (keepL f j R).length ≤ R.length
  | _, [] => Nat.le_refl _
  | j, q :: l => by
    have := keepL_len (f := f) (j + 1) l
    unfold keepL
    split
    · rw [List.length_cons]; omega
    · rw [List.length_cons, List.length_cons]; omega
theorem clnB_all {p : Rec → Prop} {n : Nat} {F : List TE} {P : List Pr.HE} {upto before : Int} {i : Nat} {x : BN × List Rec} (h : ∀ r ∈ x.2, p r) (hn : x.2.length ≤ n) : ∀ y ∈ clnB F P upto before i x, (∀ r ∈ y.2, p r) ∧ y.2.length ≤ n := by
  intro y hy
  unfold clnB at hy
  split at hy
  · have : y = x := by simpa using hy
    subst this
    exact ⟨h, hn⟩
  · split at hy
    · have : y = (x.1, keepL (dropQ F i before) 0 x.2) := by simpa using hy
      subst this
      exact ⟨keepL_all h, Nat.le_trans (keepL_len 0 x.2) hn⟩
    · cases hy
theorem clnL_all {p : Rec → Prop} {n : Nat} {F : List TE} {P : List Pr.HE} {upto before : Int} : ∀ {i : Nat} {l : List (BN × List Rec)}, (∀ x ∈ l, (∀ r ∈ x.2, p r) ∧ x.2.length ≤ n) → ∀ y ∈ clnL F P upto before i l, (∀ r ∈ y.2, p r) ∧ y.2.length ≤ n
  | _, [], _, y, hy => by cases hy
  | i, x :: l, h, y, hy => by
    rcases List.mem_append.1 (show y ∈ clnB F P upto before i x ++ clnL F P upto before (i + 1) l from hy) with hy | hy
    · exact clnB_all (h x (by simp)).1 (h x (by simp)).2 y hy
    · exact clnL_all (fun z hz => h z (by simp [hz])) y hy
theorem clnB_few (F : List TE) (P : List Pr.HE) (upto before : Int) (i : Nat) (x : BN × List Rec) : (clnB F P upto before i x).length ≤ 1 := by
  unfold clnB
  split
  · exact Nat.le_refl _
  · split
    · exact Nat.le_refl _
    · exact Nat.zero_le _
theorem clnL_few (F : List TE) (P : List Pr.HE) (upto before : Int) : ∀ (i : Nat) (l : List (BN × List Rec)), (clnL F P upto before i l).length ≤ l.length
  | _, [] => Nat.le_refl _
  | i, x :: l => by
    have h1 := clnB_few F P upto before i x
    have h2 := clnL_few F P upto before (i + 1) l
    show (clnB F P upto before i x ++ clnL F P upto before (i + 1) l).length ≤ _
    rw [List.length_append, List.length_cons]
    omega
theorem clnL_up {F : List TE} {P : List Pr.HE} {upto before : Int} : ∀ {i : Nat} {l : List (BN × List Rec)}, (∀ x ∈ l, upto < x.1.base + x.1.span) → clnL F P upto before i l = l
  | _, [], _ => rfl
  | i, x :: l, h => by
    show clnB F P upto before i x ++ clnL F P upto before (i + 1) l = _
    rw [clnB_up (h x (by simp)), clnL_up (fun z hz => h z (by simp [hz]))]
    rfl
theorem small_smr {r : Rec} (h : smallR r) : SmR r := by
  obtain ⟨h1, h2, h3, h4⟩ := h
  exact ⟨by omega, by omega, by omega, fun x hx => by have := h4 x hx; omega⟩
theorem told_mem {M : List BX} {x : BX} (h : x ∈ M) : x.told ∈ M.map BX.told := List.mem_map_of_mem h
/-- What the law asks of cleaned batches. -/
theorem cleaned_fit {L M : List BX} {F : List TE} {P : List Pr.HE} {upto before : Int} (hf : FewL L) (hM : M.map BX.told = clnL F P upto before 0 (L.map BX.told)) : M.length ≤ 8 ∧ ∀ x ∈ M, x.2.1.length ≤ 50 ∧ ∀ y ∈ x.2.1, smallR y.1 := by
  have h1 := clnL_few F P upto before 0 (L.map BX.told)
  rw [← hM, List.length_map, List.length_map] at h1
  refine ⟨Nat.le_trans h1 hf.1, fun x hx => ?_⟩
  have h2 := clnL_all (p := smallR) (n := 50) (F := F) (P := P) (upto := upto) (before := before) (i := 0) (l := L.map BX.told) (fun z hz => by
    obtain ⟨q, hq, rfl⟩ := List.mem_map.1 hz
    have hs := (hf.2 q hq).1
    refine ⟨fun r hr => ?_, by show (q.2.1.map _).length ≤ 50; rw [List.length_map]; exact hs.1⟩
    obtain ⟨u, hu, rfl⟩ := List.mem_map.1 hr
    exact hs.2 u hu) x.told (by rw [← hM]; exact told_mem hx)
  exact ⟨by have := h2.2; rwa [show x.told.2 = x.2.1.map (·.1) from rfl, List.length_map] at this, fun y hy => h2.1 y.1 (List.mem_map_of_mem hy)⟩
end Go.Proofs.YtdclkhbolmbnmaaDoor
