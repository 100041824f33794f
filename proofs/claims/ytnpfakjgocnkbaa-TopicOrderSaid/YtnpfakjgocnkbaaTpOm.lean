/- topic: in whatever order topics are made: plain math. No condition. -/
import Derived.Test.YtnpfakjgocnkbaaTpSt
namespace Go.Proofs.Ytnpfakjgocnkbaa
open Go.RowKit
set_option linter.unusedVariables false
/-- A name, of how many partitions. -/
abbrev NP := List UInt8 × Int
def npE (e : TE) : NP := (e.name, e.parts)
def npO (x : OT) : NP := (x.name.data.toList, x.parts)
def okO (x : OT) : Bool := mayT x.name.data.toList x.parts
/-- A table has just what was made of these calls. -/
structure Has (t : TS) (l : List OT) (n : Nat) : Prop where
  perm : (t.2.map npE).Perm ((l.filter okO).map npO)
  next : t.1 ≤ n
theorem Has.len {t : TS} {l : List OT} {n : Nat} (h : Has t l n) : t.2.length ≤ l.length := by
  have h1 := h.perm.length_eq
  rw [List.length_map, List.length_map] at h1
  have := List.length_filter_le okO l
  omega
theorem Has.none {t : TS} {l : List OT} {n : Nat} (h : Has t l n) {s : List UInt8} (hs : ∀ x ∈ l, x.name.data.toList ≠ s) : ofN t.2 s = none := by
  refine List.find?_eq_none.2 fun e he => ?_
  have h1 : npE e ∈ (l.filter okO).map npO := h.perm.mem_iff.1 (List.mem_map.2 ⟨e, he, rfl⟩)
  obtain ⟨x, hx, hxe⟩ := List.mem_map.1 h1
  have hne := hs x (List.mem_filter.1 hx).1
  have : x.name.data.toList = e.name := congrArg Prod.fst hxe
  rw [this] at hne
  simpa using hne
theorem Has.make {t : TS} {l : List OT} {n : Nat} (h : Has t l n) (x : OT) (hx : ∀ y ∈ l, y.name.data.toList ≠ x.name.data.toList) (hl : l.length < 20) (hn : n < 1000) :
    Has (crS t x.name.data.toList x.parts) (x :: l) (n + 1) := by
  have hno := h.none hx
  have hlen := h.len
  have hnx := h.next
  cases hm : mayT x.name.data.toList x.parts with
  | false =>
    have hcr : crR t x.name.data.toList x.parts = (0, 1) := by
      unfold crR
      rw [if_pos hm]
    unfold crS
    rw [hcr, if_neg (by decide)]
    refine ⟨?_, by omega⟩
    rw [List.filter_cons, show okO x = false from hm]
    simpa using h.perm
  | true =>
    have hf : fullT t = false := by
      unfold fullT
      rw [decide_eq_false (by omega), decide_eq_false (by omega)]
      rfl
    have hcr : crR t x.name.data.toList x.parts = (t.1, 0) := by
      unfold crR
      rw [if_neg (by rw [hm]; decide), hno, if_neg (by simp), hf, if_neg (by decide)]
    unfold crS
    rw [hcr, if_pos rfl]
    refine ⟨?_, by show t.1 + 1 ≤ ((n + 1 : Nat) : Int); omega⟩
    rw [List.filter_cons, show okO x = true from hm]
    simp only [if_true, List.map_cons]
    show ((insT _ t.2).map npE).Perm _
    have h1 := (insT_perm ⟨x.name.data.toList, t.1, x.parts⟩ t.2).map npE
    exact h1.trans (h.perm.cons _)
theorem Has.perm_of {t : TS} {l l' : List OT} {n : Nat} (h : Has t l n) (hp : l.Perm l') : Has t l' n := ⟨h.perm.trans ((hp.filter _).map _), h.next⟩
theorem Has.more {t : TS} {l : List OT} {n n' : Nat} (h : Has t l n) (hn : n ≤ n') : Has t l n' := ⟨h.perm, by have := h.next; omega⟩
theorem Has.new : Has (0, []) [] 0 := ⟨List.Perm.refl _, Int.le_refl _⟩
/-- One that is made and let go is as if it never was. -/
theorem made_gone (s : List UInt8) : Has (deS (crS (0, []) s 3) s) [] 1 := by
  unfold crS
  split
  · refine ⟨?_, by show (0 : Int) + 1 ≤ _; decide⟩
    show ((minT [⟨s, 0, 3⟩] s).map npE).Perm []
    unfold minT
    simp
  · exact ⟨List.Perm.refl _, by show (0 : Int) ≤ _; decide⟩
theorem topC_np : ∀ {F G : List TE}, F.map npE = G.map npE → topC F = topC G
  | [], [], _ => rfl
  | [], _ :: _, h => by cases h
  | _ :: _, [], h => by cases h
  | x :: F, y :: G, h => by
    rw [List.map_cons, List.map_cons] at h
    injection h with h1 h2
    have e1 : x.name = y.name := congrArg Prod.fst h1
    have e2 : x.parts = y.parts := congrArg Prod.snd h1
    show toC x ++ topC F = toC y ++ topC G
    rw [topC_np h2]
    unfold toC nmA
    rw [e1, e2]
/-- Of the same calls the same list. -/
theorem Has.same {ta tb : TS} {l : List OT} {n m : Nat} (ha : Has ta l n) (hb : Has tb l m) (oa : TOk ta) (ob : TOk tb) : ta.2.map npE = tb.2.map npE := by
  have hp := ha.perm.trans hb.perm.symm
  have sa : (ta.2.map npE).Pairwise fun a b => bytesBefore a.1 b.1 = true := by rw [List.pairwise_map]; exact oa.rise
  have sb : (tb.2.map npE).Pairwise fun a b => bytesBefore a.1 b.1 = true := by rw [List.pairwise_map]; exact ob.rise
  refine List.Perm.eq_of_pairwise (le := fun a b : NP => bytesBefore a.1 b.1 = true) (fun a b _ _ h k => ?_) sa sb hp
  have := bytes_trans' h k
  rw [Go.WideAt.bytes_irrefl] at this
  cases this
end Go.Proofs.Ytnpfakjgocnkbaa
