/- assign: rows of the call's own: places, partitions, shares. Plain laws. No condition. -/
import Derived.Test.YtlokhhjhckiloaaGreatAsChk
namespace Go.Proofs.YtlokhhjhckiloaaGreat
open Go.RowKit
set_option linter.unusedVariables false
theorem own_slice {w : World} {base t size n : Nat} {v : Value} {xs : List Value} (h : w.ownsRow base t size v n xs) : ∃ A c, v = .slice A n c := by
  rcases h.2 with ⟨hv, rfl⟩ | ⟨g, cap', cur, hv, _⟩
  · exact ⟨none, 0, hv⟩
  · exact ⟨_, _, hv⟩
theorem own_in {w : World} {base t size n c : Nat} {A : Option Addr} {xs : List Value} (h : w.ownsRow base t size (.slice A n c) n xs) (hn : 0 < n) : ∃ g, A = some ⟨g, 0, none⟩ ∧ g < w.heap.size ∧ base ≤ g ∧ n ≤ c ∧ ∀ j u, xs[j]? = some u → w.cell? ⟨g, j, none⟩ = some u := by
  have h0 := h
  rcases h0.2 with ⟨hv, rfl⟩ | ⟨g, cap', cur, hv, hb, hg, hc, _⟩
  · omega
  · injection hv with h1 _ h3
    subst h1
    subst h3
    refine ⟨g, rfl, lt_of_there hg, hb, hc, fun j u hu => ?_⟩
    have hj : j < n * size := by rw [← h.1]; exact (List.getElem?_eq_some_iff.1 hu).1
    rw [h.cellAt j hj, hu]
theorem own_blk {w : World} {base t size n : Nat} {v : Value} {xs : List Value} (h : w.ownsRow base t size v n xs) {k : Nat} (hk : v.ownBlock = some k) : base ≤ k ∧ k < w.heap.size := h.lt k hk
/-- Two rows of unlike types lie apart. -/
theorem own_two {w : World} {b1 b2 t1 t2 z1 z2 n1 n2 : Nat} {v1 v2 : Value} {x1 x2 : List Value} (h1 : w.ownsRow b1 t1 z1 v1 n1 x1) (h2 : w.ownsRow b2 t2 z2 v2 n2 x2) (hne : t1 ≠ t2) : ∀ k, v1.ownBlock = some k → v2.ownBlock ≠ some k := by
  intro k hk hk2
  rcases h1.2 with ⟨rfl, _⟩ | ⟨g1, c1, cur1, rfl, _, hg1, _⟩
  · cases hk
  rcases h2.2 with ⟨rfl, _⟩ | ⟨g2, c2, cur2, rfl, _, hg2, _⟩
  · cases hk2
  have e1 : g1 = k := by simpa [Value.ownBlock] using hk
  have e2 : g2 = k := by simpa [Value.ownBlock] using hk2
  subst e1
  subst e2
  rw [hg1] at hg2
  injection hg2 with hg2
  injection hg2 with _ h2 _
  exact hne h2
/-- Places, as cells. -/
def intsC (L : List Nat) : List Value := L.map fun (i : Nat) => Value.int .i64 (i : Int)
/-- Partitions, as cells. -/
def prtC (L : List TX) : List Value := L.flatMap fun x => [.string x.1, .int .i64 x.2]
/-- Shares, as cells. -/
def shC (R : List (Int × Value)) : List Value := R.flatMap fun r => [.int .i64 r.1, r.2]
theorem prtC_len (L : List TX) : (prtC L).length = L.length * 2 := by
  induction L with
  | nil => rfl
  | cons a L ih => rw [prtC, List.flatMap_cons, List.length_append, ← prtC, ih]; simp; omega
theorem shC_len (L : List (Int × Value)) : (shC L).length = L.length * 2 := by
  induction L with
  | nil => rfl
  | cons a L ih => rw [shC, List.flatMap_cons, List.length_append, ← shC, ih]; simp; omega
theorem prtC_at {L : List TX} {j : Nat} {x : TX} (h : L[j]? = some x) : (prtC L)[j * 2]? = some (.string x.1) ∧ (prtC L)[j * 2 + 1]? = some (.int .i64 x.2) := by
  induction L generalizing j with
  | nil => simp at h
  | cons a L ih =>
    have e : prtC (a :: L) = .string a.1 :: .int .i64 a.2 :: prtC L := rfl
    rw [e]
    cases j with
    | zero => simp at h; subst h; exact ⟨rfl, rfl⟩
    | succ j => have := ih (j := j) (by simpa using h); rw [show (j + 1) * 2 = j * 2 + 1 + 1 by omega]; simpa using this
theorem shC_at {L : List (Int × Value)} {j : Nat} {x : Int × Value} (h : L[j]? = some x) : (shC L)[j * 2]? = some (.int .i64 x.1) ∧ (shC L)[j * 2 + 1]? = some x.2 := by
  induction L generalizing j with
  | nil => simp at h
  | cons a L ih =>
    have e : shC (a :: L) = .int .i64 a.1 :: a.2 :: shC L := rfl
    rw [e]
    cases j with
    | zero => simp at h; subst h; exact ⟨rfl, rfl⟩
    | succ j => have := ih (j := j) (by simpa using h); rw [show (j + 1) * 2 = j * 2 + 1 + 1 by omega]; simpa using this
theorem shC_set {L : List (Int × Value)} {j : Nat} {x : Int × Value} (h : L[j]? = some x) (u : Value) : (shC L).set (j * 2 + 1) u = shC (L.set j (x.1, u)) := by
  induction L generalizing j with
  | nil => simp at h
  | cons a L ih =>
    have e : shC (a :: L) = .int .i64 a.1 :: a.2 :: shC L := rfl
    rw [e]
    cases j with
    | zero => simp at h; subst h; rfl
    | succ j => have := ih (j := j) (by simpa using h); rw [show (j + 1) * 2 + 1 = j * 2 + 1 + 1 + 1 by omega]; simp only [List.set_cons_succ]; rw [this]; rfl
theorem prtC_app (L M : List TX) : prtC (L ++ M) = prtC L ++ prtC M := by simp [prtC]
theorem shC_app (L M : List (Int × Value)) : shC (L ++ M) = shC L ++ shC M := by simp [shC]
theorem intsC_app (L M : List Nat) : intsC (L ++ M) = intsC L ++ intsC M := by simp [intsC]
theorem prtC_one (L : List TX) : ∀ u ∈ prtC L, u.oneCell' = true := by
  intro u hu
  simp only [prtC, List.mem_flatMap] at hu
  obtain ⟨x, _, hx⟩ := hu
  simp at hx
  rcases hx with rfl | rfl <;> rfl
theorem prt_in {w : World} {base c : Nat} {A : Option Addr} {L : List TX} (h : w.ownsRow base 34 2 (.slice A L.length c) L.length (prtC L)) : TpIn w A L := fun hp => by
  obtain ⟨g, e, hlt, _, _, hc⟩ := own_in h hp
  exact ⟨g, 0, e, hlt, fun j x hx => by rw [Nat.zero_add]; exact ⟨hc _ _ (prtC_at hx).1, hc _ _ (prtC_at hx).2⟩⟩
theorem ints_at {w : World} {base c : Nat} {A : Option Addr} {L : List Nat} (h : w.ownsRow base 3 1 (.slice A L.length c) L.length (intsC L)) {k x : Nat} (hk : L[k]? = some x) : ∃ g, A = some ⟨g, 0, none⟩ ∧ g < w.heap.size ∧ w.cell? ⟨g, k, none⟩ = some (.int .i64 x) := by
  have hkl := (List.getElem?_eq_some_iff.1 hk).1
  obtain ⟨g, e, hlt, _, _, hc⟩ := own_in h (by omega)
  exact ⟨g, e, hlt, hc k _ (by simp [intsC, hk])⟩
theorem infoShare : (Tryz.prog.info? 147).map (fun i => (i.zero, i.size, i.bytes)) = some (some (.agg #[.int .i64 0, .slice none 0 0]), 2, 32) := by kernel_rfl
theorem infoPart : (Tryz.prog.info? 34).map (fun i => (i.zero, i.size, i.bytes)) = some (some (.agg #[.string ⟨#[]⟩, .int .i64 0]), 2, 24) := by kernel_rfl
theorem infoInt : (Tryz.prog.info? 3).map (fun i => (i.zero, i.size, i.bytes)) = some (some (.int .i64 0), 1, 8) := by kernel_rfl
theorem news_at {w : World} {g : Nat} {t : TypeId} {cs : Array Value} (h : Box w g t cs) : ∀ j u, cs.toList[j]? = some u → w.cell? ((⟨g, 0, none⟩ : Addr).add j) = some u := by
  intro j u hu
  have e1 : (⟨g, 0, none⟩ : Addr).add j = ⟨g, j, none⟩ := by unfold Addr.add; split <;> simp_all
  rw [e1, h.cell j]
  simpa using hu
/-- Is a text among others? -/
def hasB (T : List ByteArray) (s : ByteArray) : Bool := T.any fun t => decide (t = s)
theorem hasB_take {T : List ByteArray} {s : ByteArray} {k : Nat} {t : ByteArray} (hk : T[k]? = some t) : hasB (T.take (k + 1)) s = (hasB (T.take k) s || decide (t = s)) := by
  unfold hasB
  rw [List.take_add_one, hk, Option.toList_some, List.any_append]
  simp
theorem hasB_yes {T : List ByteArray} {s : ByteArray} {k : Nat} {t : ByteArray} (hk : T[k]? = some t) (h : t = s) : hasB T s = true := by
  unfold hasB
  rw [List.any_eq_true]
  exact ⟨t, List.mem_of_getElem? hk, by simp [h]⟩
theorem hasB_all {T : List ByteArray} {s : ByteArray} {k : Nat} (hk : T.length ≤ k) (h : hasB (T.take k) s = false) : hasB T s = false := by rwa [List.take_of_length_le hk] at h
/-- Who of the first k wants a topic, by their places. -/
def takersG (S : List SX) (s : ByteArray) (k : Nat) : List Nat := (List.range k).filter fun i => match S[i]? with | some x => hasB x.2.1 s | none => false
theorem takersG_zero (S : List SX) (s : ByteArray) : takersG S s 0 = [] := rfl
theorem takersG_yes {S : List SX} {s : ByteArray} {k : Nat} {x : SX} (hk : S[k]? = some x) (h : hasB x.2.1 s = true) : takersG S s (k + 1) = takersG S s k ++ [k] := by
  unfold takersG
  rw [List.range_succ, List.filter_append]
  simp [hk, h]
theorem takersG_no {S : List SX} {s : ByteArray} {k : Nat} {x : SX} (hk : S[k]? = some x) (h : hasB x.2.1 s = false) : takersG S s (k + 1) = takersG S s k := by
  unfold takersG
  rw [List.range_succ, List.filter_append]
  simp [hk, h]
theorem takersG_len (S : List SX) (s : ByteArray) (k : Nat) : (takersG S s k).length ≤ k := by
  unfold takersG
  have := List.length_filter_le (fun i => match S[i]? with | some x => hasB x.2.1 s | none => false) (List.range k)
  simpa using this
theorem takersG_mem {S : List SX} {s : ByteArray} {k i : Nat} : i ∈ takersG S s k ↔ i < k ∧ ∃ x, S[i]? = some x ∧ hasB x.2.1 s = true := by
  unfold takersG
  rw [List.mem_filter, List.mem_range]
  constructor
  · rintro ⟨h1, h2⟩
    split at h2
    · exact ⟨h1, _, ‹_›, h2⟩
    · cases h2
  · rintro ⟨h1, x, h2, h3⟩
    exact ⟨h1, by rw [h2]; exact h3⟩
/-- A row of places, new. -/
def GotI (W : World) (L : List Nat) (e : Ending) (w' : World) : Prop := ∃ A c, e = .returned (.slice A L.length c) ∧ w'.ownsRow W.heap.size 3 1 (.slice A L.length c) L.length (intsC L) ∧ Below W.heap.size W w'
/-- A row of partitions, new. -/
def GotP (W : World) (L : List TX) (e : Ending) (w' : World) : Prop := ∃ A c, e = .returned (.slice A L.length c) ∧ w'.ownsRow W.heap.size 34 2 (.slice A L.length c) L.length (prtC L) ∧ Below W.heap.size W w'
end Go.Proofs.YtlokhhjhckiloaaGreat
