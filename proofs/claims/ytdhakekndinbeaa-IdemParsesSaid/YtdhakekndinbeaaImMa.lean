/- idem: what Print tells is what Parse reads, there and back: plain math. No condition. -/
import Derived.Test.YtdhakekndinbeaaImPa
import Derived.Test.YtdhakekndinbeaaImPn
namespace Go.Proofs.Ytdhakekndinbeaa
open Go.RowKit
set_option linter.unusedVariables false
/-- The document's bounds of one of a window. -/
def SnB (t : SN) : Prop := (0 ≤ t.1 ∧ t.1 ≤ 1073741824) ∧ (0 ≤ t.2.1 ∧ t.2.1 ≤ 1099511627776) ∧ (1 ≤ t.2.2 ∧ t.2.2 ≤ 50)
def GhB (y : GH) : Prop := (0 ≤ y.1 ∧ y.1 ≤ 1073741824) ∧ (0 ≤ y.2.1 ∧ y.2.1 ≤ 32768) ∧ (1 ≤ y.2.2.length ∧ y.2.2.length ≤ 5) ∧ ∀ t ∈ y.2.2, SnB t
theorem GOk.ghb {G : List GH} (h : GOk G) {y : GH} (hy : y ∈ G) : GhB y := ⟨(h.num y hy).1, (h.num y hy).2.1, (h.num y hy).2.2, fun t ht => h.sent y hy t ht⟩
theorem GOk.of {G : List GH} (hr : G.Pairwise fun a b => a.1 < b.1) (h : ∀ y ∈ G, GhB y) : GOk G := ⟨hr, fun y hy => ⟨(h y hy).1, (h y hy).2.1, (h y hy).2.2.1⟩, fun y hy t ht => (h y hy).2.2.2 t ht⟩
theorem sentL_eq (t : SN) : sentL t = putL t.1 ++ (putL t.2.1 ++ putL t.2.2) := by simp [sentL, putsL]
theorem oneL_eq (y : GH) : oneL y = putL y.1 ++ (putL y.2.1 ++ (putL (y.2.2.length : Int) ++ y.2.2.flatMap sentL)) := by simp [oneL, putsL]
theorem nuI_put {s : ByteArray} {q n lo hi : Int} {l : List UInt8} (h : Rest s q (putL n ++ l)) (h0 : lo ≤ n) (h1 : n ≤ hi) (hlo : -9223372036854775808 ≤ lo) (hhi : hi ≤ 9223372036854775807) :
    nuI s lo hi q 0 = (n, q + ((putL n).length : Int), 0) ∧ Rest s (q + ((putL n).length : Int)) l := by
  have hg := get_rest h (by omega) (by omega)
  refine ⟨?_, h.next⟩
  have hw : witB n lo hi = true := by unfold witB; rw [decide_eq_true h0, decide_eq_true h1]; rfl
  unfold nuI
  rw [if_pos rfl, hg]
  simp only
  rw [if_pos trivial, if_pos hw]
theorem seI_put {s : ByteArray} {q : Int} {t : SN} {l : List UInt8} (h : Rest s q (sentL t ++ l)) (hb : SnB t) : seI s q 0 = (t, q + ((sentL t).length : Int), 0) ∧ Rest s (q + ((sentL t).length : Int)) l := by
  refine ⟨?_, h.next⟩
  rw [sentL_eq, List.append_assoc, List.append_assoc] at h
  obtain ⟨⟨a0, a1⟩, ⟨b0, b1⟩, ⟨c0, c1⟩⟩ := hb
  obtain ⟨e1, h1⟩ := nuI_put h a0 a1 (by omega) (by omega)
  obtain ⟨e2, h2⟩ := nuI_put h1 b0 b1 (by omega) (by omega)
  obtain ⟨e3, h3⟩ := nuI_put h2 c0 c1 (by omega) (by omega)
  rw [seI_of e1 e2 e3, sentL_eq, List.length_append, List.length_append]
  simp only [Prod.mk.injEq, true_and, and_true]
  omega
theorem rest_take {s : ByteArray} {q : Int} {L : List SN} {l : List UInt8} {k : Nat} {t : SN} (h : Rest s q (L.flatMap sentL ++ l)) (hk : L[k]? = some t) : Rest s (q + (((L.take k).flatMap sentL).length : Int)) (sentL t ++ ((L.drop (k + 1)).flatMap sentL ++ l)) := by
  have hl := (List.getElem?_eq_some_iff.1 hk).1
  have e : L = L.take k ++ t :: L.drop (k + 1) := by
    have h1 := List.take_append_drop k L
    rw [List.drop_eq_getElem_cons hl, (List.getElem?_eq_some_iff.1 hk).2] at h1
    exact h1.symm
  have h2 : Rest s q ((L.take k).flatMap sentL ++ (sentL t ++ ((L.drop (k + 1)).flatMap sentL ++ l))) := by
    have : L.flatMap sentL = (L.take k).flatMap sentL ++ (sentL t ++ (L.drop (k + 1)).flatMap sentL) := by
      conv => lhs; rw [e]
      rw [List.flatMap_append, List.flatMap_cons]
    rw [this] at h
    simpa [List.append_assoc] using h
  exact h2.next
theorem itI_put {s : ByteArray} {q : Int} {T : List SN} {l : List UInt8} (x : HE) (h : Rest s q (T.flatMap sentL ++ l)) (hb : ∀ t ∈ T, SnB t) : ∀ k, k ≤ T.length → itI s (x, q, 0) k = ((T.take k).foldl HE.more x, q + (((T.take k).flatMap sentL).length : Int), 0)
  | 0, _ => by simp [itI]
  | k + 1, hk => by
    obtain ⟨t, ht⟩ : ∃ t, T[k]? = some t := ⟨_, List.getElem?_eq_getElem (by omega)⟩
    have hr := rest_take h ht
    have hs := (seI_put hr (hb t (List.mem_of_getElem? ht))).1
    show stI s (itI s (x, q, 0) k) = _
    rw [itI_put x h hb k (by omega)]
    unfold stI
    simp only
    rw [hs, take_snoc' ht, List.foldl_append, List.flatMap_append, List.length_append]
    simp only [List.foldl_cons, List.foldl_nil, List.flatMap_cons, List.flatMap_nil, List.append_nil, Prod.mk.injEq, and_true, true_and]
    omega
theorem more_ok (x : HE) (s : SN) (hf : x.f < 5) (hc : x.c ≤ 5) : (x.more s).f < 5 ∧ (x.more s).c ≤ 5 := by
  unfold HE.more
  simp only
  split
  · exact ⟨Nat.mod_lt _ (by decide), Nat.le_refl _⟩
  · exact ⟨hf, by omega⟩
theorem fold_more : ∀ (T : List SN) (x : HE), x.f < 5 → x.c ≤ 5 → winL (T.foldl HE.more x).R (T.foldl HE.more x).f (T.foldl HE.more x).c = T.foldl addL (winL x.R x.f x.c) ∧ (T.foldl HE.more x).e = x.e
  | [], x, _, _ => ⟨rfl, rfl⟩
  | t :: T, x, hf, hc => by
    have hm := more_ok x t hf hc
    have ih := fold_more T (x.more t) hm.1 hm.2
    rw [win_more x t hf hc] at ih
    exact ih
theorem fold_add : ∀ (T L : List SN), L.length + T.length ≤ 5 → T.foldl addL L = L ++ T
  | [], L, _ => by simp
  | t :: T, L, h => by
    rw [List.length_cons] at h
    rw [List.foldl_cons, show addL L t = L ++ [t] by unfold addL; rw [if_neg (by omega)], fold_add T (L ++ [t]) (by rw [List.length_append]; simp; omega)]
    simp
theorem fold_zero (e : Int) (g : Nat) (T : List SN) (h : T.length ≤ 5) : (absH (T.foldl HE.more ⟨0, g, e, zeroR, 0, 0⟩)).2 = (e, T) := by
  have h1 := fold_more T ⟨0, g, e, zeroR, 0, 0⟩ (by show 0 < 5; decide) (by show 0 ≤ 5; decide)
  unfold absH
  simp only
  rw [h1.1, h1.2, show winL zeroR 0 0 = [] from rfl, fold_add T [] (by simpa using h)]
  simp
theorem pdI_put {s : ByteArray} {q e : Int} {T : List SN} {l : List UInt8} (h : Rest s q (putL e ++ (putL (T.length : Int) ++ (T.flatMap sentL ++ l)))) (he : 0 ≤ e ∧ e ≤ 32768) (hT : 1 ≤ T.length ∧ T.length ≤ 5) (hb : ∀ t ∈ T, SnB t) :
    (absH (pdI s q 0 0).1).2 = (e, T) ∧ (pdI s q 0 0).2 = (q + ((putL e).length : Int) + ((putL (T.length : Int)).length : Int) + ((T.flatMap sentL).length : Int), 0) := by
  obtain ⟨e1, h1⟩ := nuI_put h he.1 he.2 (by omega) (by omega)
  obtain ⟨e2, h2⟩ := nuI_put (lo := 1) (hi := 5) h1 (by omega) (by omega) (by omega) (by omega)
  have e3 := itI_put ⟨0, 0, e, zeroR, 0, 0⟩ h2 hb T.length (Nat.le_refl _)
  rw [List.take_length] at e3
  unfold pdI
  rw [e1]
  simp only
  rw [e2]
  simp only [Int.toNat_natCast]
  rw [e3]
  exact ⟨fold_zero e 0 T hT.2, rfl⟩
theorem putG_end {G : List GH} {y : GH} (h : ∀ g ∈ G, g.1 < y.1) : putG y G = G ++ [y] := by
  have hf : G.filter (fun h => !decide (h.1 = y.1)) = G := List.filter_eq_self.2 fun g hg => by have := h g hg; simp; omega
  unfold putG
  rw [hf]
  clear hf
  induction G with
  | nil => rfl
  | cons g r ih =>
    unfold insG
    rw [if_neg (by have := h g (by simp); omega), ih (fun z hz => h z (by simp [hz]))]
    rfl
theorem stP_put {s : ByteArray} {q lst : Int} {G0 : List GH} {y : GH} {l : List UInt8} (h : Rest s q (oneL y ++ l)) (hb : GhB y) (hl : lst ≤ y.1) (h0 : 0 ≤ lst) (hG : ∀ g ∈ G0, g.1 < lst) :
    stP s (G0, lst, q, 0) = (G0 ++ [y], y.1 + 1, q + ((oneL y).length : Int), 0) ∧ Rest s (q + ((oneL y).length : Int)) l := by
  refine ⟨?_, h.next⟩
  rw [oneL_eq, List.append_assoc, List.append_assoc, List.append_assoc] at h
  obtain ⟨⟨a0, a1⟩, hb1, hb2, hb3⟩ := hb
  obtain ⟨e1, h1⟩ := nuI_put h hl a1 (by omega) (by omega)
  obtain ⟨e2, e3⟩ := pdI_put h1 hb1 hb2 hb3
  unfold stP
  simp only
  rw [e1]
  simp only
  rw [e2, e3, putG_end (y := (y.1, y.2.1, y.2.2)) (fun g hg => by have := hG g hg; show g.1 < y.1; omega), oneL_eq]
  simp only [List.length_append, Prod.mk.injEq, true_and, and_true]
  omega
theorem psL_put {s : ByteArray} : ∀ (G G0 : List GH) (q lst : Int) (l : List UInt8), Rest s q (G.flatMap oneL ++ l) → (∀ y ∈ G, GhB y) → (∀ y ∈ G, lst ≤ y.1) → G.Pairwise (fun a b => a.1 < b.1) → 0 ≤ lst → (∀ g ∈ G0, g.1 < lst) →
    ∃ lst', psL s G.length (G0, lst, q, 0) = (G0 ++ G, lst', q + ((G.flatMap oneL).length : Int), 0)
  | [], G0, q, lst, l, _, _, _, _, _, _ => ⟨lst, by simp [psL]⟩
  | y :: G, G0, q, lst, l, h, hb, hl, hp, h0, hG => by
    rw [List.flatMap_cons, List.append_assoc] at h
    rw [List.pairwise_cons] at hp
    have hly := hl y (by simp)
    obtain ⟨e1, h1⟩ := stP_put h (hb y (by simp)) hly h0 hG
    obtain ⟨lst', e2⟩ := psL_put G (G0 ++ [y]) (q + ((oneL y).length : Int)) (y.1 + 1) l h1 (fun z hz => hb z (by simp [hz])) (fun z hz => by have := hp.1 z hz; omega) hp.2 (by omega) (fun g hg => by
      rcases List.mem_append.1 hg with h | h
      · have := hG g h; omega
      · have : g = y := by simpa using h
        subst this; omega)
    refine ⟨lst', ?_⟩
    show psL s (G.length + 1) (G0, lst, q, 0) = _
    unfold psL
    rw [if_pos rfl, e1, e2, List.flatMap_cons, List.length_append]
    simp only [List.append_assoc, List.cons_append, List.nil_append, Prod.mk.injEq, true_and, and_true]
    omega
theorem rest_all (l : List UInt8) : Rest ⟨l.toArray⟩ 0 l := ⟨Int.le_refl _, Int.natCast_nonneg _, by simp⟩
/-- What was printed is parsed. -/
theorem parse_print {G : List GH} (h : GOk G) (hl : G.length ≤ 10000) : paE ⟨(printL G).toArray⟩ = 0 ∧ (psR ⟨(printL G).toArray⟩ 0 0).1 = G := by
  have hr := rest_all (printL G)
  unfold printL at hr
  have hr' : Rest ⟨(printL G).toArray⟩ 0 (putL (G.length : Int) ++ (G.flatMap oneL ++ [])) := by rw [List.append_nil]; exact hr
  obtain ⟨e1, h1⟩ := nuI_put (lo := 0) (hi := 10000) hr' (by omega) (by omega) (by omega) (by omega)
  obtain ⟨lst', e2⟩ := psL_put G [] _ 0 [] h1 (fun y hy => h.ghb hy) (fun y hy => (h.num y hy).1.1) h.rise (Int.le_refl _) (fun g hg => by cases hg)
  have e3 : psR ⟨(printL G).toArray⟩ 0 0 = (G, lst', 0 + ((putL (G.length : Int)).length : Int) + ((G.flatMap oneL).length : Int), 0) := by
    unfold psR
    rw [e1]
    simp only [Int.toNat_natCast]
    rw [e2]
    rfl
  have hsz : ((⟨(printL G).toArray⟩ : ByteArray).size : Int) = ((putL (G.length : Int)).length : Int) + ((G.flatMap oneL).length : Int) := by
    show (((printL G).toArray.size : Nat) : Int) = _
    rw [List.size_toArray]
    unfold printL
    rw [List.length_append]
    omega
  refine ⟨?_, by rw [e3]⟩
  unfold paE
  rw [e3]
  simp only
  rw [if_pos trivial, if_neg (by omega)]
theorem nuI_ok {s : ByteArray} {lo hi q e : Int} (h : (nuI s lo hi q e).2.2 = 0) : e = 0 ∧ Span s q (nuI s lo hi q e).2.1 (putL (nuI s lo hi q e).1) ∧ lo ≤ (nuI s lo hi q e).1 ∧ (nuI s lo hi q e).1 ≤ hi := by
  unfold nuI at *
  split at h
  · rename_i he
    rw [if_pos he]
    split at h
    · rename_i hg
      rw [if_pos hg]
      split at h
      · rename_i hw
        rw [if_pos hw]
        unfold witB at hw
        simp only [Bool.and_eq_true, decide_eq_true_eq] at hw
        exact ⟨he, (get_ok hg).1, hw.1, hw.2⟩
      · exact absurd (show (3 : Int) = 0 from h) (by decide)
    · rename_i hg
      exact absurd h hg
  · rename_i he
    exact absurd h he
theorem seI_back {s : ByteArray} {q e : Int} (h : (seI s q e).2.2 = 0) : e = 0 ∧ Span s q (seI s q e).2.1 (sentL (seI s q e).1) ∧ SnB (seI s q e).1 := by
  obtain ⟨r1, h1⟩ : ∃ r, nuI s 0 1073741824 q e = r := ⟨_, rfl⟩
  obtain ⟨r2, h2⟩ : ∃ r, nuI s 0 1099511627776 r1.2.1 r1.2.2 = r := ⟨_, rfl⟩
  obtain ⟨r3, h3⟩ : ∃ r, nuI s 1 50 r2.2.1 r2.2.2 = r := ⟨_, rfl⟩
  rw [seI_of h1 h2 h3] at h ⊢
  obtain ⟨z2, s3, b3⟩ := nuI_ok (s := s) (lo := 1) (hi := 50) (q := r2.2.1) (e := r2.2.2) (by rw [h3]; exact h)
  obtain ⟨z1, s2, b2⟩ := nuI_ok (s := s) (lo := 0) (hi := 1099511627776) (q := r1.2.1) (e := r1.2.2) (by rw [h2]; exact z2)
  obtain ⟨z0, s1, b1⟩ := nuI_ok (s := s) (lo := 0) (hi := 1073741824) (q := q) (e := e) (by rw [h1]; exact z1)
  rw [h3] at s3 b3
  rw [h2] at s2 b2
  rw [h1] at s1 b1
  refine ⟨z0, ?_, b1, b2, b3⟩
  rw [sentL_eq]
  exact s1.join (s2.join s3)
theorem itI_back {s : ByteArray} (x : HE) (r : Int × Int) (hr : 0 ≤ r.1 ∧ r.1 ≤ s.size) : ∀ k, (itI s (x, r) k).2.2 = 0 → r.2 = 0 ∧ ∃ T : List SN, T.length = k ∧ (itI s (x, r) k).1 = T.foldl HE.more x ∧ Span s r.1 (itI s (x, r) k).2.1 (T.flatMap sentL) ∧ ∀ t ∈ T, SnB t
  | 0, h => ⟨h, [], rfl, rfl, Span.nil hr.1 hr.2, fun t ht => by cases ht⟩
  | k + 1, h => by
    have h' : (stI s (itI s (x, r) k)).2.2 = 0 := h
    show _ ∧ ∃ T : List SN, T.length = k + 1 ∧ (stI s (itI s (x, r) k)).1 = _ ∧ Span s r.1 (stI s (itI s (x, r) k)).2.1 _ ∧ _
    unfold stI at h' ⊢
    simp only at h' ⊢
    obtain ⟨z, sp, b⟩ := seI_back h'
    obtain ⟨z0, T, hT, hx, hs, hb⟩ := itI_back x r hr k z
    refine ⟨z0, T ++ [(seI s (itI s (x, r) k).2.1 (itI s (x, r) k).2.2).1], by simp [hT], ?_, ?_, ?_⟩
    · rw [List.foldl_append, ← hx]; rfl
    · rw [List.flatMap_append]
      have := hs.join sp
      simpa using this
    · intro t ht
      rcases List.mem_append.1 ht with h | h
      · exact hb t h
      · have : t = (seI s (itI s (x, r) k).2.1 (itI s (x, r) k).2.2).1 := by simpa using h
        rw [this]; exact b
theorem Span.bnd {s : ByteArray} {q r : Int} {l : List UInt8} (h : Span s q r l) : 0 ≤ r ∧ r ≤ s.size := ⟨by have := h.1; have := h.2.1; omega, h.2.2.1⟩
theorem pdI_back {s : ByteArray} {q e : Int} (h : (pdI s q e 0).2.2 = 0) : e = 0 ∧ ∃ (e' : Int) (T : List SN), (absH (pdI s q e 0).1).2 = (e', T) ∧ (0 ≤ e' ∧ e' ≤ 32768) ∧ (1 ≤ T.length ∧ T.length ≤ 5) ∧ (∀ t ∈ T, SnB t) ∧ Span s q (pdI s q e 0).2.1 (putL e' ++ (putL (T.length : Int) ++ T.flatMap sentL)) := by
  unfold pdI at *
  obtain ⟨r1, h1⟩ : ∃ r, nuI s 0 32768 q e = r := ⟨_, rfl⟩
  obtain ⟨r2, h2⟩ : ∃ r, nuI s 1 5 r1.2.1 r1.2.2 = r := ⟨_, rfl⟩
  have o1 := fun hz => nuI_ok (s := s) (lo := 0) (hi := 32768) (q := q) (e := e) hz
  have o2 := fun hz => nuI_ok (s := s) (lo := 1) (hi := 5) (q := r1.2.1) (e := r1.2.2) hz
  rw [h1] at h o1 ⊢
  rw [h2] at h o2 ⊢
  -- the number's place is one of the text's, where it was read
  by_cases hz : r2.2.2 = 0
  · obtain ⟨z1, s2, b2⟩ := o2 hz
    obtain ⟨z0, s1, b1⟩ := o1 z1
    obtain ⟨_, T, hT, hx, hs, hb⟩ := itI_back ⟨0, 0, r1.1, zeroR, 0, 0⟩ r2.2 s2.bnd r2.1.toNat h
    have hTl : (T.length : Int) = r2.1 := by rw [hT]; omega
    refine ⟨z0, r1.1, T, ?_, b1, by omega, hb, ?_⟩
    · rw [hx]
      exact fold_zero r1.1 0 T (by omega)
    · rw [hTl]
      exact s1.join (s2.join hs)
  · exfalso
    have hn : r2.1 = 0 := by
      have := nuI_in s 1 5 r1.2.1 r1.2.2
      rw [h2] at this
      rcases this with ⟨_, _, h3⟩ | ⟨h3, _⟩
      · exact absurd h3 hz
      · exact h3
    rw [hn] at h
    exact hz h
theorem stP_back {s : ByteArray} {G0 : List GH} {lst q e : Int} (hl : 0 ≤ lst) (h : (stP s (G0, lst, q, e)).2.2.2 = 0) : e = 0 ∧ ∃ y : GH, stP s (G0, lst, q, e) = (putG y G0, y.1 + 1, (stP s (G0, lst, q, e)).2.2.1, 0) ∧ GhB y ∧ lst ≤ y.1 ∧ Span s q (stP s (G0, lst, q, e)).2.2.1 (oneL y) := by
  unfold stP at *
  simp only at *
  obtain ⟨r1, h1⟩ : ∃ r, nuI s lst 1073741824 q e = r := ⟨_, rfl⟩
  have o1 := fun hz => nuI_ok (s := s) (lo := lst) (hi := 1073741824) (q := q) (e := e) hz
  rw [h1] at h o1 ⊢
  obtain ⟨z1, e', T, hx, he, hT, hb, hs⟩ := pdI_back h
  obtain ⟨z0, s1, b1⟩ := o1 z1
  refine ⟨z0, (r1.1, e', T), ?_, ⟨⟨by show 0 ≤ r1.1; omega, b1.2⟩, he, hT, hb⟩, b1.1, ?_⟩
  · rw [hx]
    simp only [Prod.mk.injEq, true_and]
    exact Prod.ext rfl h
  · rw [oneL_eq]
    exact s1.join hs
theorem psL_back {s : ByteArray} : ∀ (k : Nat) (G0 : List GH) (lst q e : Int), 0 ≤ lst → (0 ≤ q ∧ q ≤ s.size) → (∀ g ∈ G0, g.1 < lst) → (psL s k (G0, lst, q, e)).2.2.2 = 0 →
    e = 0 ∧ ∃ G : List GH, G.length = k ∧ (psL s k (G0, lst, q, e)).1 = G0 ++ G ∧ Span s q (psL s k (G0, lst, q, e)).2.2.1 (G.flatMap oneL) ∧ (∀ y ∈ G, GhB y ∧ lst ≤ y.1) ∧ G.Pairwise (fun a b => a.1 < b.1)
  | 0, G0, lst, q, e, _, hq, _, h => ⟨h, [], rfl, by simp [psL], Span.nil hq.1 hq.2, (fun y hy => by cases hy), .nil⟩
  | k + 1, G0, lst, q, e, hl, hq, hG, h => by
    unfold psL at h ⊢
    by_cases he : e = 0
    · rw [if_pos he] at h ⊢
      -- behind an error nothing is read
      by_cases hz : (stP s (G0, lst, q, e)).2.2.2 = 0
      · obtain ⟨_, y, hst, hy, hly, hs⟩ := stP_back hl hz
        rw [hst] at h ⊢
        obtain ⟨_, G, hk, hr, hsp, hb, hp⟩ := psL_back k (putG y G0) (y.1 + 1) _ 0 (by omega) hs.bnd (fun g hg => by
          rcases putG_mem.1 hg with rfl | ⟨hg, _⟩
          · omega
          · have := hG g hg; omega) h
        refine ⟨he, y :: G, by simp [hk], ?_, ?_, fun z hz => ?_, ?_⟩
        · rw [hr, putG_end (fun g hg => by have := hG g hg; omega)]
          simp
        · rw [List.flatMap_cons]
          exact hs.join hsp
        · rcases List.mem_cons.1 hz with rfl | hz
          · exact ⟨hy, hly⟩
          · have := hb z hz
            exact ⟨this.1, by omega⟩
        · rw [List.pairwise_cons]
          exact ⟨fun z hz => by have := (hb z hz).2; omega, hp⟩
      · exfalso
        rw [psL_err s hz] at h
        exact hz h
    · rw [if_neg he] at h
      exact absurd h he
/-- What was parsed is printed to the same text. -/
theorem print_parse {s : ByteArray} (h : paE s = 0) : (⟨(printL (psR s 0 0).1).toArray⟩ : ByteArray) = s ∧ GOk (psR s 0 0).1 ∧ (psR s 0 0).1.length ≤ 10000 := by
  unfold paE at h
  split at h
  case isFalse hz => exact absurd h hz
  case isTrue hz =>
    split at h
    case isTrue => exact absurd h (by decide)
    case isFalse hq =>
      unfold psR at *
      obtain ⟨r, hr⟩ : ∃ r, nuI s 0 10000 0 0 = r := ⟨_, rfl⟩
      have o := fun hz => nuI_ok (s := s) (lo := 0) (hi := 10000) (q := 0) (e := 0) hz
      have hin := nuI_in s 0 10000 0 0
      rw [hr] at hz hq o hin ⊢
      have hr0 : r.2.2 = 0 := by
        rcases hin with ⟨_, _, h⟩ | ⟨h0, hn⟩
        · exact h
        · rw [h0] at hz
          exact hz
      obtain ⟨_, s1, b1⟩ := o hr0
      obtain ⟨_, G, hk, hG, hsp, hb, hp⟩ := psL_back r.1.toNat [] 0 r.2.1 r.2.2 (Int.le_refl _) s1.bnd (fun g hg => by cases hg) hz
      have hlen : (G.length : Int) = r.1 := by rw [hk]; omega
      rw [hG, List.nil_append]
      refine ⟨?_, GOk.of hp (fun y hy => (hb y hy).1), by omega⟩
      have hsp2 := s1.join hsp
      rw [show putL r.1 ++ G.flatMap oneL = printL G by unfold printL; rw [hlen]] at hsp2
      have hb2 := hsp2.bnd
      have hend : (psL s r.1.toNat ([], 0, r.2)).2.2.1 = s.size := by
        have h1 : (psL s r.1.toNat ([], 0, r.2)).2.2.1 ≤ s.size := hb2.2
        omega
      have hsp3 : Span s 0 s.size (printL G) := hend ▸ hsp2
      have := hsp3.extract
      rw [← this]
      simp
end Go.Proofs.Ytdhakekndinbeaa
