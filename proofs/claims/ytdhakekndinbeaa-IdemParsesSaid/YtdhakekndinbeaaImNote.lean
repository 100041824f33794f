/- idem: Note, by a contract. No condition. -/
import Derived.Test.YtdhakekndinbeaaImPut
import Derived.Test.YtdhakekndinbeaaImAdd
namespace Go.Proofs.Ytdhakekndinbeaa
open Go.RowKit
set_option linter.unusedVariables false
/-- A producer with one more. -/
def HE.more (x : HE) (s : SN) : HE := { x with R := updW x.R ((x.f + x.c) % 5) s, f := if x.c = 5 then (x.f + 1) % 5 else x.f, c := if x.c = 5 then 5 else x.c + 1 }
theorem add_c (b : Nat) (e : Int) (R : Nat → SN) (f c : Nat) (s : SN) (W : World) (h : PrIs W b e R f c) :
    Calls Try.prog 31 #[.pointer (some ⟨b, 1, none⟩), snV s] W (Added W b e R f c s) := by
  have hc := h.c5
  by_cases h5 : c = 5
  · subst h5
    exact add_full b e R f s W h
  · exact add_part b e R f c s W h (by omega)
/-- One of those that were heard, changed in its own block. -/
def chgF (x : HE) (F : List HE) : List HE := F.map fun y => if y.id = x.id then x else y
theorem chgF_mem {x g : HE} {F : List HE} (h : g ∈ chgF x F) : g = x ∨ (g ∈ F ∧ g.id ≠ x.id) := by
  unfold chgF at h
  obtain ⟨y, hy, rfl⟩ := List.mem_map.1 h
  split
  · exact .inl rfl
  · exact .inr ⟨hy, by assumption⟩
/-- Its own block written, all others stay. -/
theorem PdIs.chg {W w' : World} {p : Nat} {m : Option Nat} {F : List HE} {x y : HE} (h : PdIs W p m F) (hy : y ∈ F) (hid : y.id = x.id) (hblk : y.blk = x.blk) (hx : HeIn w' x) (ho : Off (· = x.blk) W w') : PdIs w' p m (chgF x F) := by
  obtain ⟨j, hj⟩ := List.getElem?_of_mem hy
  have hjl := (List.getElem?_eq_some_iff.1 hj)
  have hr := List.pairwise_iff_getElem.1 h.rise
  have hbb := List.pairwise_iff_getElem.1 h.blks
  have hub : ∀ z ∈ F, z.id = x.id → z.blk = x.blk := by
    intro z hz hzi
    obtain ⟨i, hi⟩ := List.getElem?_of_mem hz
    have hil := (List.getElem?_eq_some_iff.1 hi)
    by_cases e : i = j
    · subst e
      rw [hi] at hj
      injection hj with hj
      rw [hj]; exact hblk
    · exfalso
      rcases Nat.lt_or_gt_of_ne e with hlt | hlt
      · have := hr i j hil.1 hjl.1 hlt
        rw [hil.2, hjl.2] at this
        omega
      · have := hr j i hjl.1 hil.1 hlt
        rw [hil.2, hjl.2] at this
        omega
  have hne : ∀ z ∈ F, z.id ≠ x.id → z.blk ≠ x.blk := fun z hz e eb => by
    obtain ⟨i, hi⟩ := List.getElem?_of_mem hz
    have hil := (List.getElem?_eq_some_iff.1 hi)
    by_cases e2 : i = j
    · subst e2
      rw [hi] at hj
      injection hj with hj
      subst hj
      exact e hid
    · rcases Nat.lt_or_gt_of_ne e2 with hlt | hlt
      · have := hbb i j hil.1 hjl.1 hlt
        rw [hil.2, hjl.2] at this
        omega
      · have := hbb j i hjl.1 hil.1 hlt
        rw [hil.2, hjl.2] at this
        omega
  have hkey : ∀ z ∈ F, (if z.id = x.id then x else z).id = z.id ∧ (if z.id = x.id then x else z).blk = z.blk := fun z hz => by
    split
    · rename_i e
      exact ⟨e.symm, (hub z hz e).symm⟩
    · exact ⟨rfl, rfl⟩
  have hyb := (h.all y hy).pr.box
  refine ⟨h.box.off ho (fun e => box_ne hyb h.box (by decide) (by rw [hblk]; exact e.symm)), ?_, fun g hg => ?_, ?_, ?_⟩
  · rcases h.map with ⟨h1, h2⟩ | ⟨g, h1, h2⟩
    · exact .inl ⟨h1, by rw [h2]; rfl⟩
    · refine .inr ⟨g, h1, ?_⟩
      have e1 : mapP (chgF x F) = mapP F := by
        unfold mapP chgF
        rw [List.map_map]
        congr 1
        refine List.map_congr_left fun z hz => ?_
        show entP (if z.id = x.id then x else z) = entP z
        unfold entP
        rw [(hkey z hz).1, (hkey z hz).2]
      rw [show (chgF x F).length = F.length by unfold chgF; rw [List.length_map], e1]
      exact map_off h2 ho (fun e => box_ne_map hyb h2 (by rw [hblk]; exact e.symm))
  · rcases chgF_mem hg with rfl | ⟨hg, hgi⟩
    · exact hx
    · exact ⟨⟨(h.all g hg).pr.box.off ho (hne g hg hgi), (h.all g hg).pr.f5, (h.all g hg).pr.c5⟩, (h.all g hg).ok, (h.all g hg).id⟩
  · unfold chgF
    rw [List.pairwise_map]
    refine h.blks.imp_of_mem fun {a b} ha hb hab => ?_
    rw [(hkey a ha).2, (hkey b hb).2]
    exact hab
  · unfold chgF
    rw [List.pairwise_map]
    refine h.rise.imp_of_mem fun {a b} ha hb hab => ?_
    rw [(hkey a ha).1, (hkey b hb).1]
    exact hab
/-- What is told of those that were heard: number, epoch, window. -/
abbrev GH := Int × Int × List SN
def absH (h : HE) : GH := (h.id, h.e, winL h.R h.f h.c)
def absF (F : List HE) : List GH := F.map absH
def addL (L : List SN) (s : SN) : List SN := (if L.length = 5 then L.tail else L) ++ [s]
theorem win_more (x : HE) (s : SN) (h5 : x.f < 5) (hc : x.c ≤ 5) : winL (x.more s).R (x.more s).f (x.more s).c = addL (winL x.R x.f x.c) s := by
  unfold addL HE.more
  rw [winL_len]
  simp only
  by_cases h : x.c = 5
  · rw [if_pos h, if_pos h, if_pos h, h]
    apply List.ext_getElem?
    intro i
    by_cases hi : i < 5
    · rw [winL_at hi]
      unfold updW
      by_cases hi4 : i = 4
      · subst hi4
        rw [if_pos (by omega), List.getElem?_append_right (by simp [winL_len]), List.length_tail, winL_len]
        rfl
      · rw [if_neg (by omega), List.getElem?_append_left (by simp [winL_len]; omega), List.getElem?_tail, winL_at (by omega)]
        congr 2
        omega
    · rw [List.getElem?_eq_none (by simp [winL_len]; omega), List.getElem?_eq_none (by simp [winL_len]; omega)]
  · rw [if_neg h, if_neg h, if_neg h]
    apply List.ext_getElem?
    intro i
    by_cases hi : i < x.c + 1
    · rw [winL_at hi]
      unfold updW
      by_cases hic : i = x.c
      · subst hic
        rw [if_pos rfl, List.getElem?_append_right (by simp [winL_len]), winL_len, Nat.sub_self]
        rfl
      · rw [if_neg (by omega), List.getElem?_append_left (by simp [winL_len]; omega), winL_at (by omega)]
    · rw [List.getElem?_eq_none (by simp [winL_len]; omega), List.getElem?_eq_none (by simp [winL_len]; omega)]
def insG (x : GH) : List GH → List GH
  | [] => [x]
  | y :: r => if x.1 < y.1 then x :: y :: r else y :: insG x r
def putG (x : GH) (G : List GH) : List GH := insG x (G.filter fun h => !decide (h.1 = x.1))
theorem abs_ins (x : HE) : ∀ F : List HE, absF (insH x F) = insG (absH x) (absF F)
  | [] => rfl
  | y :: r => by
    unfold insH
    show absF _ = (if (absH x).1 < (absH y).1 then _ else _)
    have e : ((absH x).1 < (absH y).1) = (x.id < y.id) := rfl
    by_cases h : x.id < y.id
    · rw [if_pos h, if_pos (by rw [e]; exact h)]; rfl
    · rw [if_neg h, if_neg (by rw [e]; exact h)]; exact congrArg (absH y :: ·) (abs_ins x r)
theorem abs_put (x : HE) (F : List HE) : absF (putF x F) = putG (absH x) (absF F) := by
  unfold putF putG
  rw [abs_ins]
  congr 1
  unfold absF
  rw [List.filter_map]
  rfl
def moreG (n : Int) (s : SN) (G : List GH) : List GH := G.map fun y => if y.1 = n then (y.1, y.2.1, addL y.2.2 s) else y
def findG (G : List GH) (n : Int) : Option GH := G.find? fun y => decide (y.1 = n)
theorem abs_find (F : List HE) (n : Int) : findG (absF F) n = (ofId F n).map absH := by
  unfold findG absF ofId
  rw [List.find?_map]
  rfl
/-- Note, as the document has it. -/
def noteG (G : List GH) (b : BN) : List GH :=
  if bnB b = true then
    match findG G b.prod with
    | none => putG (b.prod, b.epoch, [(b.seq, b.base, b.span)]) G
    | some y => if b.epoch < y.2.1 then G else if y.2.1 < b.epoch then putG (b.prod, b.epoch, [(b.seq, b.base, b.span)]) G else moreG b.prod (b.seq, b.base, b.span) G
  else G
theorem abs_chg {F : List HE} {h : HE} {s : SN} (hp : ∀ y ∈ F, y.id = h.id → y = h) (h5 : h.f < 5) (hc : h.c ≤ 5) : absF (chgF (h.more s) F) = moreG h.id s (absF F) := by
  unfold absF chgF moreG
  rw [List.map_map, List.map_map]
  refine List.map_congr_left fun y hy => ?_
  show absH (if y.id = h.id then h.more s else y) = (if (absH y).1 = h.id then _ else _)
  by_cases e : y.id = h.id
  · have := hp y hy e
    subst this
    rw [if_pos rfl, if_pos (show (absH y).1 = y.id from rfl)]
    show (_, _, winL _ _ _) = _
    rw [win_more y s h5 hc]
    rfl
  · rw [if_neg e, if_neg (show ¬ (absH y).1 = h.id from e)]
end Go.Proofs.Ytdhakekndinbeaa
