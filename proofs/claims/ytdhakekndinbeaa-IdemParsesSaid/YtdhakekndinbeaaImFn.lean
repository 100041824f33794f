/- idem: who is found behind a Note: plain math. No condition. -/
import Derived.Test.YtdhakekndinbeaaImLv
import Derived.Test.YtdhakekndinbeaaImOp
namespace Go.Proofs.Ytdhakekndinbeaa
open Go.RowKit
set_option linter.unusedVariables false
theorem find_cons (y : GH) (G : List GH) (n : Int) : findG (y :: G) n = if y.1 = n then some y else findG G n := by
  unfold findG
  rw [List.find?_cons]
  by_cases h : y.1 = n
  · rw [if_pos h, decide_eq_true h]
  · rw [if_neg h, decide_eq_false h]
theorem find_ins_ne (x : GH) (n : Int) (hx : x.1 ≠ n) : ∀ G : List GH, findG (insG x G) n = findG G n
  | [] => by show findG [x] n = _; rw [find_cons, if_neg hx]
  | y :: r => by
    unfold insG
    split
    · rw [find_cons, if_neg hx]
    · rw [find_cons, find_cons, find_ins_ne x n hx r]
theorem find_ins_eq (x : GH) : ∀ G : List GH, (∀ g ∈ G, g.1 ≠ x.1) → findG (insG x G) x.1 = some x
  | [], _ => by show findG [x] x.1 = _; rw [find_cons, if_pos rfl]
  | y :: r, h => by
    unfold insG
    split
    · rw [find_cons, if_pos rfl]
    · rw [find_cons, if_neg (h y (by simp)), find_ins_eq x r (fun g hg => h g (by simp [hg]))]
theorem find_filter (m n : Int) (h : m ≠ n) : ∀ G : List GH, findG (G.filter fun y => !decide (y.1 = m)) n = findG G n
  | [] => rfl
  | y :: r => by
    rw [List.filter_cons]
    by_cases e : y.1 = m
    · rw [decide_eq_true e, if_neg (by simp), find_cons, if_neg (by rw [e]; exact h), find_filter m n h r]
    · rw [decide_eq_false e, if_pos (by simp), find_cons, find_cons, find_filter m n h r]
theorem find_put_ne (x : GH) (n : Int) (hx : x.1 ≠ n) (G : List GH) : findG (putG x G) n = findG G n := by
  unfold putG
  rw [find_ins_ne x n hx, find_filter x.1 n hx]
theorem find_put_eq (x : GH) (G : List GH) : findG (putG x G) x.1 = some x := by
  unfold putG
  refine find_ins_eq x _ fun g hg => ?_
  have := (List.mem_filter.1 hg).2
  simpa using this
theorem find_more (m : Int) (s : SN) (n : Int) : ∀ G : List GH, findG (moreG m s G) n = (findG G n).map fun y => if y.1 = m then (y.1, y.2.1, addL y.2.2 s) else y
  | [] => rfl
  | y :: r => by
    show findG ((if y.1 = m then (y.1, y.2.1, addL y.2.2 s) else y) :: moreG m s r) n = _
    have e : (if y.1 = m then (y.1, y.2.1, addL y.2.2 s) else y).1 = y.1 := by split <;> rfl
    rw [find_cons, find_cons, e]
    by_cases h : y.1 = n
    · rw [if_pos h, if_pos h]; rfl
    · rw [if_neg h, if_neg h, find_more m s n r]
/-- What another one sends changes nothing. -/
theorem note_other (G : List GH) (b : BN) (n : Int) (h : b.prod ≠ n) : findG (noteG G b) n = findG G n := by
  unfold noteG
  split
  · split
    · exact find_put_ne _ _ h _
    · split
      · rfl
      · split
        · exact find_put_ne _ _ h _
        · rw [find_more]
          cases hf : findG G n with
          | none => rfl
          | some y =>
            have hy : y.1 = n := by have := List.find?_some hf; simpa using this
            show some (if y.1 = b.prod then _ else y) = some y
            rw [if_neg (by rw [hy]; exact fun e => h e.symm)]
  · rfl
theorem note_new {G : List GH} {b : BN} (hb : bnB b = true) (h : findG G b.prod = none) : findG (noteG G b) b.prod = some (b.prod, b.epoch, [(b.seq, b.base, b.span)]) := by
  unfold noteG
  rw [if_pos hb, h]
  exact find_put_eq (b.prod, b.epoch, [(b.seq, b.base, b.span)]) G
theorem note_later {G : List GH} {b : BN} {y : GH} (hb : bnB b = true) (h : findG G b.prod = some y) (he : y.2.1 < b.epoch) : findG (noteG G b) b.prod = some (b.prod, b.epoch, [(b.seq, b.base, b.span)]) := by
  unfold noteG
  rw [if_pos hb, h]
  simp only
  rw [if_neg (by omega), if_pos he]
  exact find_put_eq (b.prod, b.epoch, [(b.seq, b.base, b.span)]) G
theorem note_more {G : List GH} {b : BN} {y : GH} (hb : bnB b = true) (h : findG G b.prod = some y) (he : y.2.1 = b.epoch) : findG (noteG G b) b.prod = some (b.prod, b.epoch, addL y.2.2 (b.seq, b.base, b.span)) := by
  have hy : y.1 = b.prod := by have := List.find?_some h; simpa using this
  unfold noteG
  rw [if_pos hb, h]
  simp only
  rw [if_neg (by omega), if_neg (by omega), find_more, h]
  show some (if y.1 = b.prod then _ else y) = _
  rw [if_pos hy, hy, he]
theorem insG_len (x : GH) (G : List GH) : (insG x G).length = G.length + 1 := by rw [(insG_perm x G).length_eq, List.length_cons]
theorem note_len (G : List GH) (b : BN) : (noteG G b).length ≤ G.length + 1 := by
  have hp : ∀ x, (putG x G).length ≤ G.length + 1 := fun x => by
    unfold putG
    rw [insG_len]
    have := List.length_filter_le (fun h : GH => !decide (h.1 = x.1)) G
    omega
  unfold noteG
  split
  · split
    · exact hp _
    · split
      · omega
      · split
        · exact hp _
        · unfold moreG; rw [List.length_map]; omega
  · omega
theorem bnB_mk {b : BN} (h1 : 0 ≤ b.prod ∧ b.prod ≤ 1073741824) (h2 : 0 ≤ b.epoch ∧ b.epoch ≤ 32768) (h3 : 0 ≤ b.seq ∧ b.seq ≤ 1073741824) (h4 : 1 ≤ b.span ∧ b.span ≤ 50) (h5 : 0 ≤ b.base ∧ b.base ≤ 1099511627776) : bnB b = true := by
  unfold bnB witB
  simp only [Bool.and_eq_true, decide_eq_true_eq]
  exact ⟨h1, h2, h3, h4, h5⟩
theorem chk_of {G : List GH} {b : BN} (hp : b.prod ≠ -1) (hb : bnB { b with base := 0 } = true) : chkG G b = chkGO (findG G b.prod) b := by
  unfold chkG
  rw [if_neg hp, if_pos hb]
end Go.Proofs.Ytdhakekndinbeaa
