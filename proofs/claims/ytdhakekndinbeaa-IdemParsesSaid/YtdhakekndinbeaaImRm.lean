/- idem: the document's Note as a change of one place: plain math. No condition. -/
import Derived.Test.YtdhakekndinbeaaImRl
namespace Go.Proofs.Ytdhakekndinbeaa
open Go.RowKit
set_option linter.unusedVariables false
theorem ins_at (x : GH) : ∀ (G : List GH) (i : Nat), i ≤ G.length → (∀ j y, j < i → G[j]? = some y → y.1 < x.1) → (∀ y, G[i]? = some y → x.1 < y.1) → insG x G = G.take i ++ x :: G.drop i
  | [], i, hi, _, _ => by
    have : i = 0 := by simpa using hi
    subst this
    rfl
  | y :: r, 0, _, _, h => by
    have := h y rfl
    unfold insG
    rw [if_pos this]
    rfl
  | y :: r, i + 1, hi, h1, h2 => by
    have hy := h1 0 y (by omega) rfl
    unfold insG
    rw [if_neg (by omega), ins_at x r i (by simpa using hi) (fun j z hj hz => h1 (j + 1) z (by omega) (by simpa using hz)) (fun z hz => h2 z (by simpa using hz))]
    rfl
theorem none_ne {G : List GH} {n : Int} (h : findG G n = none) : ∀ y ∈ G, y.1 ≠ n := by
  intro y hy e
  have := List.find?_eq_none.1 h y hy
  simp at this
  exact this e
theorem put_none {G : List GH} {x : GH} (h : findG G x.1 = none) {i : Nat} (hi : i ≤ G.length) (h1 : ∀ j y, j < i → G[j]? = some y → y.1 < x.1) (h2 : ∀ y, G[i]? = some y → ¬ y.1 < x.1) : putG x G = G.take i ++ x :: G.drop i := by
  have hn := none_ne h
  have hf : G.filter (fun h => !decide (h.1 = x.1)) = G := List.filter_eq_self.2 fun g hg => by have := hn g hg; simpa using this
  unfold putG
  rw [hf]
  exact ins_at x G i hi h1 (fun y hy => by have := h2 y hy; have := hn y (List.mem_of_getElem? hy); omega)
theorem put_same {x : GH} : ∀ {G : List GH} {i : Nat} {y : GH}, G.Pairwise (fun a b => a.1 < b.1) → G[i]? = some y → y.1 = x.1 → putG x G = G.set i x
  | [], i, y, _, h, _ => by cases h
  | z :: r, 0, y, hp, h, e => by
    have : z = y := by simpa using h
    subst this
    rw [List.pairwise_cons] at hp
    have hf : (z :: r).filter (fun h => !decide (h.1 = x.1)) = r := by
      rw [List.filter_cons, decide_eq_true e, if_neg (by simp)]
      exact List.filter_eq_self.2 fun g hg => by have := hp.1 g hg; simp; omega
    unfold putG
    rw [hf]
    have := ins_at x r 0 (Nat.zero_le _) (fun j y hj => by omega) (fun y hy => by have := hp.1 y (List.mem_of_getElem? hy); omega)
    rw [this]
    rfl
  | z :: r, i + 1, y, hp, h, e => by
    rw [List.pairwise_cons] at hp
    have hr : r[i]? = some y := by simpa using h
    have hz := hp.1 y (List.mem_of_getElem? hr)
    have ih := put_same (x := x) hp.2 hr e
    have hf : (z :: r).filter (fun h => !decide (h.1 = x.1)) = z :: r.filter (fun h => !decide (h.1 = x.1)) := by
      rw [List.filter_cons, decide_eq_false (by omega), if_pos (by simp)]
    unfold putG at ih ⊢
    rw [hf]
    show insG x (z :: _) = z :: r.set i x
    rw [← ih]
    show (if x.1 < z.1 then _ else _) = _
    rw [if_neg (by omega)]
theorem more_set {m : Int} {s : SN} : ∀ {G : List GH} {i : Nat} {y : GH}, G.Pairwise (fun a b => a.1 < b.1) → G[i]? = some y → y.1 = m → moreG m s G = G.set i (y.1, y.2.1, addL y.2.2 s)
  | [], i, y, _, h, _ => by cases h
  | z :: r, 0, y, hp, h, e => by
    have : z = y := by simpa using h
    subst this
    rw [List.pairwise_cons] at hp
    show (if z.1 = m then _ else z) :: moreG m s r = _
    rw [if_pos e]
    have : moreG m s r = r := by
      unfold moreG
      conv => rhs; rw [← List.map_id r]
      refine List.map_congr_left fun g hg => ?_
      have := hp.1 g hg
      rw [if_neg (by omega)]
      rfl
    rw [this]
    rfl
  | z :: r, i + 1, y, hp, h, e => by
    rw [List.pairwise_cons] at hp
    have hr : r[i]? = some y := by simpa using h
    have hz := hp.1 y (List.mem_of_getElem? hr)
    show (if z.1 = m then _ else z) :: moreG m s r = _
    rw [if_neg (by omega), more_set hp.2 hr e]
    rfl
theorem fst_at {K : List RK} {i : Nat} {x : RK} (h : K[i]? = some x) : (K.map (·.1))[i]? = some x.1 := by rw [List.getElem?_map, h]; rfl
/-- The three ways of a Note that is taken. -/
theorem note_set {G : List GH} {b : BN} (hG : GOk G) (hb : bnB b = true) {i : Nat} {y : GH} (hi : G[i]? = some y) (hf : findG G b.prod = some y) (he : ¬ b.epoch < y.2.1) :
    noteG G b = G.set i (b.prod, b.epoch, addL (if y.2.1 = b.epoch then y.2.2 else []) (b.seq, b.base, b.span)) := by
  have hy : y.1 = b.prod := by have := List.find?_some hf; simpa using this
  unfold noteG
  rw [if_pos hb, hf]
  simp only
  rw [if_neg he]
  by_cases h : y.2.1 < b.epoch
  · rw [if_pos h, if_neg (by omega)]
    exact put_same hG.rise hi hy
  · rw [if_neg h, if_pos (by omega), more_set hG.rise hi hy, hy, show y.2.1 = b.epoch by omega]
theorem note_ins {G : List GH} {b : BN} (hb : bnB b = true) (hf : findG G b.prod = none) {i : Nat} (hi : i ≤ G.length) (h1 : ∀ j y, j < i → G[j]? = some y → y.1 < b.prod) (h2 : ∀ y, G[i]? = some y → ¬ y.1 < b.prod) :
    noteG G b = (G.take i ++ (b.prod, b.epoch, []) :: G.drop i).set i (b.prod, b.epoch, addL [] (b.seq, b.base, b.span)) := by
  unfold noteG
  rw [if_pos hb, hf]
  simp only
  rw [put_none hf hi h1 h2, List.set_append, if_neg (by rw [List.length_take]; omega), List.length_take, Nat.min_eq_left hi, Nat.sub_self]
  rfl
theorem rowK_set : ∀ {K : List RK} {i : Nat} {x : RK}, i < K.length → rowK (K.set i x) = (((rowK K).set (i * 3) (.int .i64 x.1.1)).set (i * 3 + 1) (.int .i64 x.1.2.1)).set (i * 3 + 2) x.2
  | [], i, x, h => by simp at h
  | y :: r, 0, x, h => rfl
  | y :: r, i + 1, x, h => by
    have ih := rowK_set (K := r) (i := i) (x := x) (by simpa using h)
    show rkC y ++ rowK (r.set i x) = _
    rw [ih]
    have e : (i + 1) * 3 = 3 + i * 3 := by omega
    rw [e]
    have hl : (rkC y).length = 3 := rfl
    show _ = (((rkC y ++ rowK r).set _ _).set _ _).set _ _
    rw [List.set_append, if_neg (by rw [hl]; omega), List.set_append, if_neg (by rw [hl]; omega), List.set_append, if_neg (by rw [hl]; omega), hl]
    rw [show 3 + i * 3 - 3 = i * 3 by omega, show 3 + i * 3 + 1 - 3 = i * 3 + 1 by omega, show 3 + i * 3 + 2 - 3 = i * 3 + 2 by omega]
end Go.Proofs.Ytdhakekndinbeaa
