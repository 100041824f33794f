/- idem: a producer that numbers its batches one behind the other: plain math; its list in memory. No condition. -/
import Derived.Test.YtdhakekndinbeaaImRl
import Derived.Test.YtdhakekndinbeaaKit2
namespace Go.Proofs.Ytdhakekndinbeaa
open Go.RowKit
set_option linter.unusedVariables false
def trB (x : BN) : SN := (x.seq, x.base, x.span)
/-- The last five. -/
def tl5 (T : List BN) : List SN := (T.drop (T.length - 5)).map trB
def ag1 (ep : Int) (T : List BN) : Option GH := if T.length = 0 then none else some (7, ep, tl5 T)
structure AgT (ep seq base : Int) (k : Nat) (T : List BN) : Prop where
  all : ∀ x ∈ T, x.prod = 7 ∧ x.epoch = ep ∧ 0 ≤ x.seq ∧ 1 ≤ x.span ∧ x.span ≤ 50 ∧ x.seq + x.span ≤ seq ∧ 0 ≤ x.base ∧ x.base ≤ 4000
  rise : T.Pairwise fun a b => a.seq < b.seq
  s0 : 0 ≤ seq ∧ seq ≤ 50 * k
  b0 : 0 ≤ base ∧ base ≤ 90 * k
  ls : nextL (tl5 T) = seq
  len : T.length ≤ k
theorem findL_no {L : List SN} {q p : Int} (h : ∀ s ∈ L, s.1 ≠ q) : ∀ k, findL L q p k = none
  | 0 => rfl
  | k + 1 => by
    unfold findL
    cases hk : L[k]? with
    | none => exact findL_no h k
    | some s => simp only; rw [if_neg (fun e => h s (List.mem_of_getElem? hk) e.1)]; exact findL_no h k
theorem findL_yes {L : List SN} {q p : Int} {i : Nat} {s : SN} (hs : L[i]? = some s) (hq : s.1 = q) (hp : s.2.2 = p) (hd : ∀ j t, L[j]? = some t → t.1 = q → j = i) : ∀ k, i < k → findL L q p k = some s.2.1
  | k + 1, h => by
    unfold findL
    by_cases e : k = i
    · subst e
      rw [hs]
      simp only
      rw [if_pos ⟨hq, hp⟩]
    · cases hk : L[k]? with
      | none => exact findL_yes hs hq hp hd k (by omega)
      | some t => simp only; rw [if_neg (fun x => e (hd k t hk x.1))]; exact findL_yes hs hq hp hd k (by omega)
theorem tl5_len (T : List BN) : (tl5 T).length = T.length - (T.length - 5) := by unfold tl5; rw [List.length_map, List.length_drop]
theorem tl5_get {T : List BN} {k : Nat} {x : BN} (hx : T[k]? = some x) (hk : T.length - 5 ≤ k) : (tl5 T)[k - (T.length - 5)]? = some (trB x) := by
  unfold tl5
  rw [List.getElem?_map, List.getElem?_drop, show T.length - 5 + (k - (T.length - 5)) = k by omega, hx]
  rfl
theorem tl5_any {T : List BN} {j : Nat} {t : SN} (h : (tl5 T)[j]? = some t) : ∃ x, T[T.length - 5 + j]? = some x ∧ t = trB x := by
  unfold tl5 at h
  rw [List.getElem?_map, List.getElem?_drop] at h
  cases hx : T[T.length - 5 + j]? with
  | none => rw [hx] at h; cases h
  | some x => rw [hx] at h; exact ⟨x, rfl, by injection h with h; exact h.symm⟩
theorem tl5_add (T : List BN) (b : BN) : tl5 (T ++ [b]) = addL (tl5 T) (trB b) := by
  unfold addL
  rw [tl5_len]
  unfold tl5
  rw [List.length_append]
  show ((T ++ [b]).drop (T.length + 1 - 5)).map trB = _
  rw [List.drop_append_of_le_length (by omega), List.map_append]
  by_cases h : T.length - (T.length - 5) = 5
  · rw [if_pos h, ← List.map_tail, List.tail_drop, show T.length + 1 - 5 = T.length - 5 + 1 by omega]
    rfl
  · rw [if_neg h, show T.length + 1 - 5 = T.length - 5 by omega]
    rfl
theorem nextL_add (L : List SN) (s : SN) : nextL (addL L s) = s.1 + s.2.2 := by
  unfold nextL addL
  rw [List.length_append]
  show (match (_ ++ [s])[(if L.length = 5 then L.tail else L).length + 1 - 1]? with | some s => s.1 + s.2.2 | none => 0) = _
  rw [Nat.add_sub_cancel, List.getElem?_append_right (Nat.le_refl _), Nat.sub_self]
  rfl
section
variable {ep seq base : Int} {k : Nat} {T : List BN}
theorem AgT.nil (ep : Int) : AgT ep 0 0 0 [] := ⟨fun x hx => (by cases hx), List.Pairwise.nil, ⟨Int.le_refl _, by omega⟩, ⟨Int.le_refl _, by omega⟩, rfl, Nat.le_refl _⟩
theorem AgT.bump (h : AgT ep seq base k T) : AgT ep seq base (k + 1) T := ⟨h.all, h.rise, ⟨h.s0.1, by have := h.s0.2; omega⟩, ⟨h.b0.1, by have := h.b0.2; omega⟩, h.ls, by have := h.len; omega⟩
theorem AgT.add (h : AgT ep seq base k T) (hk : k < 40) {n : Int} (h1 : 1 ≤ n) (h2 : n ≤ 50) : AgT ep (seq + n) (base + n + k) (k + 1) (T ++ [⟨base, n, 7, ep, seq⟩]) := by
  obtain ⟨a, b, ⟨c1, c2⟩, ⟨d1, d2⟩, e, f⟩ := h
  refine ⟨fun x hx => ?_, ?_, by omega, by omega, ?_, by rw [List.length_append]; show T.length + 1 ≤ k + 1; omega⟩
  · rcases List.mem_append.1 hx with hx | hx
    · obtain ⟨q1, q2, q3, q4, q5, q6, q7⟩ := a x hx
      exact ⟨q1, q2, q3, q4, q5, by omega, q7⟩
    · simp at hx
      subst hx
      exact ⟨rfl, rfl, c1, h1, h2, Int.le_refl _, d1, by show base ≤ 4000; omega⟩
  · rw [List.pairwise_append]
    refine ⟨b, List.pairwise_singleton _ _, fun x hx y hy => ?_⟩
    simp at hy
    subst hy
    obtain ⟨_, _, q3, q4, _, q6, _⟩ := a x hx
    show x.seq < seq
    omega
  · rw [tl5_add, nextL_add]
    rfl
theorem tl5_mem {s : SN} (hs : s ∈ tl5 T) : ∃ x ∈ T, s = trB x := by
  unfold tl5 at hs
  obtain ⟨x, hx, rfl⟩ := List.mem_map.1 hs
  exact ⟨x, List.mem_of_mem_drop hx, rfl⟩
theorem AgT.past (h : AgT ep seq base k T) {q : Int} (hq : seq ≤ q) (p : Int) (m : Nat) : findL (tl5 T) q p m = none :=
  findL_no (fun s hs => by
    obtain ⟨x, hx, rfl⟩ := tl5_mem hs
    obtain ⟨_, _, q3, q4, _, q6, _⟩ := h.all x hx
    show x.seq ≠ q
    omega) m
theorem AgT.get (h : AgT ep seq base k T) {i j : Nat} {x y : BN} (hx : T[i]? = some x) (hy : T[j]? = some y) (hij : i < j) : x.seq < y.seq := by
  obtain ⟨a, rfl⟩ := List.getElem?_eq_some_iff.1 hx
  obtain ⟨b, rfl⟩ := List.getElem?_eq_some_iff.1 hy
  exact List.pairwise_iff_getElem.1 h.rise i j a b hij
end
theorem agB {base n ep seq : Int} (h1 : 0 ≤ ep ∧ ep ≤ 32768) (h2 : 0 ≤ seq ∧ seq ≤ 4000) (h3 : 1 ≤ n ∧ n ≤ 50) (h4 : 0 ≤ base ∧ base ≤ 4000) : bnB ⟨base, n, 7, ep, seq⟩ = true :=
  bnB_mk (b := ⟨base, n, 7, ep, seq⟩) (by show (0 : Int) ≤ 7 ∧ (7 : Int) ≤ 1073741824; omega) h1 (by show 0 ≤ seq ∧ seq ≤ 1073741824; omega) h3 (by show 0 ≤ base ∧ base ≤ 1099511627776; omega)
section
variable {ep seq base : Int} {k : Nat} {T : List BN} {G : List GH}
theorem ag_next (h : AgT ep seq base k T) (hk : k ≤ 40) (hf : findG G 7 = ag1 ep T) (he : 0 ≤ ep ∧ ep ≤ 32768) {n q : Int} (hn : 1 ≤ n ∧ n ≤ 50) (hq : seq ≤ q) (hq2 : q ≤ 4000) : chkG G ⟨base, n, 7, ep, q⟩ = if q = seq then (0, false, 0) else (0, false, 9) := by
  have hs := h.s0
  rw [chk_of (b := ⟨base, n, 7, ep, q⟩) (by show (7 : Int) ≠ -1; omega) (agB (base := 0) (n := n) (seq := q) he ⟨by omega, hq2⟩ hn ⟨by omega, by omega⟩)]
  show chkGO (findG G 7) _ = _
  rw [hf]
  unfold ag1 chkGO
  by_cases h0 : T.length = 0
  · rw [if_pos h0]
    have e : seq = 0 := by
      have := h.ls
      rw [List.length_eq_zero_iff.1 h0] at this
      exact this.symm
    simp only
    rw [e]
  · rw [if_neg h0]
    simp only
    rw [if_neg (by omega), if_pos trivial, h.past hq]
    simp only
    rw [h.ls]
theorem ag_again (h : AgT ep seq base k T) (hk : k ≤ 40) (hf : findG G 7 = ag1 ep T) (he : 0 ≤ ep ∧ ep ≤ 32768) {i : Nat} {x : BN} (hx : T[i]? = some x) (hi : T.length - 5 ≤ i) : chkG G x = (x.base, true, 0) := by
  have hs := h.s0
  obtain ⟨q1, q2, q3, q4, q5, q6, q7⟩ := h.all x (List.mem_of_getElem? hx)
  have hl : i < T.length := (List.getElem?_eq_some_iff.1 hx).1
  have hb : bnB { x with base := 0 } = true := by
    obtain ⟨xb, xn, xp, xe, xq⟩ := x
    simp only at q1 q2
    subst q1 q2
    exact agB he ⟨q3, by show xq ≤ 4000; simp only at q4 q6; omega⟩ ⟨q4, q5⟩ ⟨by omega, by omega⟩
  rw [chk_of (by omega) hb, q1, hf]
  unfold ag1 chkGO
  rw [if_neg (by omega)]
  simp only
  rw [q2, if_neg (by omega), if_pos rfl, findL_yes (q := x.seq) (p := x.span) (i := i - (T.length - 5)) (s := trB x) (tl5_get hx hi) rfl rfl (fun j t ht e => ?_) _ (by rw [tl5_len]; omega)]
  · rfl
  · obtain ⟨y, hy, rfl⟩ := tl5_any ht
    have e' : y.seq = x.seq := e
    rcases Nat.lt_trichotomy (T.length - 5 + j) i with hh | hh | hh
    · have := h.get hy hx hh; omega
    · omega
    · have := h.get hx hy hh; omega
theorem ag_long (h : AgT ep seq base k T) (hk : k ≤ 40) (hf : findG G 7 = ag1 ep T) (he : 0 ≤ ep ∧ ep ≤ 32768) {i : Nat} {x : BN} (hx : T[i]? = some x) (hi : i < T.length - 5) : chkG G x = (0, false, 9) := by
  have hs := h.s0
  obtain ⟨q1, q2, q3, q4, q5, q6, q7⟩ := h.all x (List.mem_of_getElem? hx)
  have hl : i < T.length := (List.getElem?_eq_some_iff.1 hx).1
  have hb : bnB { x with base := 0 } = true := by
    obtain ⟨xb, xn, xp, xe, xq⟩ := x
    simp only at q1 q2
    subst q1 q2
    exact agB he ⟨q3, by show xq ≤ 4000; simp only at q4 q6; omega⟩ ⟨q4, q5⟩ ⟨by omega, by omega⟩
  rw [chk_of (by omega) hb, q1, hf]
  unfold ag1 chkGO
  rw [if_neg (by omega)]
  simp only
  rw [q2, if_neg (by omega), if_pos rfl, findL_no (fun s hs => ?_)]
  · simp only
    rw [h.ls, if_neg (by omega)]
  · obtain ⟨j, hj⟩ := List.getElem?_of_mem hs
    obtain ⟨y, hy, rfl⟩ := tl5_any hj
    have := h.get hx hy (by omega)
    show y.seq ≠ x.seq
    omega
theorem ag_old (hT : 0 < T.length) (hf : findG G 7 = ag1 ep T) (he : 0 < ep ∧ ep ≤ 32768) {b n q : Int} (hn : 1 ≤ n ∧ n ≤ 50) (hq : 0 ≤ q ∧ q ≤ 4000) : chkG G ⟨b, n, 7, ep - 1, q⟩ = (0, false, 8) := by
  rw [chk_of (b := ⟨b, n, 7, ep - 1, q⟩) (by show (7 : Int) ≠ -1; omega) (agB (base := 0) (ep := ep - 1) ⟨by omega, by omega⟩ hq hn ⟨by omega, by omega⟩)]
  show chkGO (findG G 7) _ = _
  rw [hf]
  unfold ag1 chkGO
  rw [if_neg (by omega)]
  simp only
  rw [if_pos (by omega)]
theorem ag_note (h : AgT ep seq base k T) (hk : k ≤ 40) (hf : findG G 7 = ag1 ep T) (he : 0 ≤ ep ∧ ep ≤ 32768) {n : Int} (hn : 1 ≤ n ∧ n ≤ 50) : findG (noteG G ⟨base, n, 7, ep, seq⟩) 7 = ag1 ep (T ++ [⟨base, n, 7, ep, seq⟩]) := by
  have hs := h.s0
  have hb0 := h.b0
  have hb : bnB ⟨base, n, 7, ep, seq⟩ = true := agB he ⟨by omega, by omega⟩ hn ⟨by omega, by omega⟩
  unfold ag1
  rw [if_neg (by rw [List.length_append]; show T.length + 1 ≠ 0; omega), tl5_add]
  unfold ag1 at hf
  by_cases h0 : T.length = 0
  · rw [if_pos h0] at hf
    rw [List.length_eq_zero_iff.1 h0]
    exact note_new (b := ⟨base, n, 7, ep, seq⟩) hb hf
  · rw [if_neg h0] at hf
    exact note_more (b := ⟨base, n, 7, ep, seq⟩) hb hf rfl
end
/-- Their cells. -/
def bnsC (T : List BN) : List Value := T.flatMap fun x => [.int .i64 x.base, .int .i64 x.span, .int .i64 x.prod, .int .i64 x.epoch, .int .i64 x.seq, .slice none 0 0]
theorem bnsC_snoc (T : List BN) (x : BN) : bnsC (T ++ [x]) = bnsC T ++ [.int .i64 x.base, .int .i64 x.span, .int .i64 x.prod, .int .i64 x.epoch, .int .i64 x.seq, .slice none 0 0] := by simp [bnsC]
theorem bnsC_at : ∀ {L : List BN} {j : Nat} {e : BN}, L[j]? = some e → ∀ i, i < 6 → (bnsC L)[j * 6 + i]? = [Value.int .i64 e.base, .int .i64 e.span, .int .i64 e.prod, .int .i64 e.epoch, .int .i64 e.seq, .slice none 0 0][i]?
  | [], j, e, h, i, hi => by cases h
  | x :: l, 0, e, h, i, hi => by
    have : x = e := by simpa using h
    subst this
    show ([_, _, _, _, _, _] ++ bnsC l)[0 * 6 + i]? = _
    rw [List.getElem?_append_left (by show 0 * 6 + i < 6; omega), show 0 * 6 + i = i by omega]
  | x :: l, j + 1, e, h, i, hi => by
    have ih := bnsC_at (L := l) (j := j) (e := e) (by simpa using h) i hi
    show ([_, _, _, _, _, _] ++ bnsC l)[(j + 1) * 6 + i]? = _
    rw [List.getElem?_append_right (by show 6 ≤ (j + 1) * 6 + i; omega)]
    show (bnsC l)[(j + 1) * 6 + i - 6]? = _
    rw [show (j + 1) * 6 + i - 6 = j * 6 + i by omega]
    exact ih
theorem batInfo : (Try.prog.info? 31).map (fun i => (i.zero, i.size, i.bytes)) = some (some (.agg #[.int .i64 0, .int .i64 0, .int .i64 0, .int .i64 0, .int .i64 0, .slice none 0 0]), 6, 64) := by kernel_rfl
theorem bat_one (b n p e q : Int) : ∀ u ∈ [Value.int .i64 b, .int .i64 n, .int .i64 p, .int .i64 e, .int .i64 q, .slice none 0 0], u.oneCell' = true := by
  intro u hu
  simp at hu
  rcases hu with rfl | rfl | rfl | rfl | rfl | rfl <;> rfl
theorem batC_zero : (Value.agg #[.int .i64 0, .int .i64 0, .int .i64 0, .int .i64 0, .int .i64 0, .slice none 0 0]).cells.size = 6 := rfl
theorem news_at {w : World} {g : Nat} {t : TypeId} {cs : Array Value} (h : Box w g t cs) : ∀ j u, cs.toList[j]? = some u → w.cell? ((⟨g, 0, none⟩ : Addr).add j) = some u := by
  intro j u hu
  rw [add_at, Nat.zero_add, h.cell]
  simpa using hu
/-- What an append to a row of batches may write. -/
def badB (o : Obj) : Prop := match o with
  | .cells _ t _ => t = 31
  | _ => False
theorem keepB {w w' : World} {base n : Nat} {v : Value} {xs : List Value} (ho : w.ownsRow base 31 6 v n xs) (hg : w.grownBy w' v.ownBlock) : KeepO badB w w' := fun k o hk hb => by
  refine (hg.block k (lt_of_there hk) ?_).trans hk
  intro e
  rcases ho.2 with ⟨rfl, _⟩ | ⟨g, cap, cur, rfl, _, hh, _⟩
  · simp [Value.ownBlock] at e
  · simp [Value.ownBlock] at e
    subst e
    rw [hk] at hh
    injection hh with hh
    subst hh
    exact hb rfl
theorem KeepO.boxB {w w' : World} {b : Nat} {t : TypeId} {cs : Array Value} (h : KeepO badB w w') (hb : Box w b t cs) (h1 : t ≠ 31) : Box w' b t cs := h b _ hb (fun e => h1 e)
theorem PO.keepB {W w w' : World} {p : Nat} {G : List GH} (h : PO W p G w) (hk : KeepO badB w w') (hb : Below W.heap.size W w') : PO W p G w' := by
  obtain ⟨m, F, a1, a2, a3, a4, a5⟩ := h.is
  refine ⟨⟨m, F, ⟨hk.boxB a1.box (by decide), ?_, fun y hy => ?_, a1.blks, a1.rise⟩, a2, a3, a4, a5⟩, h.ok, hb⟩
  · rcases a1.map with e | ⟨g, e, hm⟩
    · exact .inl e
    · refine .inr ⟨g, e, ?_⟩
      obtain ⟨es, clock, hb, Ft, hs, hD⟩ := hm
      exact ⟨es, clock, hk g _ hb (fun x => x), Ft, hs, hD⟩
  · have hy' := a1.all y hy
    exact ⟨⟨hk.boxB hy'.pr.box (by decide), hy'.pr.f5, hy'.pr.c5⟩, hy'.ok, hy'.id⟩
theorem row_keepP {w w' : World} {base n : Nat} {v : Value} {xs : List Value} (h : w.ownsRow base 31 6 v n xs) (hk : KeepO badP w w') : w'.ownsRow base 31 6 v n xs := by
  refine ⟨h.1, ?_⟩
  rcases h.2 with h0 | ⟨g, cap, cur, hv, hg, hh, hr⟩
  · exact .inl h0
  · exact .inr ⟨g, cap, cur, hv, hg, hk g _ hh (fun x => by rcases x with e | e <;> exact absurd e (by decide)), hr⟩
theorem box_grown {w w' : World} {q : Nat} {t : TypeId} {cs : Array Value} {r : Option Nat} (hb : Box w q t cs) (hg : w.grownBy w' r) (hn : ∀ k, r = some k → k < q) : Box w' q t cs :=
  (hg.block q hb.lt (fun e => Nat.lt_irrefl _ (hn q e.symm))).trans hb
theorem row_bat {w : World} {base c : Nat} {A : Option Addr} {T : List BN} {k : Nat} {x : BN} (h : w.ownsRow base 31 6 (.slice A T.length c) T.length (bnsC T)) (hx : T[k]? = some x) :
    ∃ g, A = some ⟨g, 0, none⟩ ∧ g < w.heap.size ∧ w.cell? ⟨g, k * 6, none⟩ = some (.int .i64 x.base) ∧ w.cell? ⟨g, k * 6 + 1, none⟩ = some (.int .i64 x.span) ∧ w.cell? ⟨g, k * 6 + 2, none⟩ = some (.int .i64 x.prod) ∧ w.cell? ⟨g, k * 6 + 3, none⟩ = some (.int .i64 x.epoch) ∧ w.cell? ⟨g, k * 6 + 4, none⟩ = some (.int .i64 x.seq) ∧ w.cell? ⟨g, k * 6 + 5, none⟩ = some (.slice none 0 0) := by
  have hl : k < T.length := (List.getElem?_eq_some_iff.1 hx).1
  rcases h.2 with ⟨hv, h0⟩ | ⟨g', cap', cur, hv, hg, hh, h4, h5, h6, h7⟩
  · omega
  · injection hv with e1 e2 e3
    subst e1
    have key : ∀ i v, i < 6 → [Value.int .i64 x.base, .int .i64 x.span, .int .i64 x.prod, .int .i64 x.epoch, .int .i64 x.seq, .slice none 0 0][i]? = some v → w.cell? ⟨g', k * 6 + i, none⟩ = some v := fun i v hi hv => by
      have h1 := bnsC_at hx i hi
      rw [← h7, List.getElem?_take_of_lt (by omega), hv] at h1
      unfold World.cell?
      simp only [hh]
      simpa using h1
    exact ⟨g', rfl, lt_of_there hh, key 0 _ (by decide) rfl, key 1 _ (by decide) rfl, key 2 _ (by decide) rfl, key 3 _ (by decide) rfl, key 4 _ (by decide) rfl, key 5 _ (by decide) rfl⟩
end Go.Proofs.Ytdhakekndinbeaa
