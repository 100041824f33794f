/- idem: a window's find, next, add, by contracts. No condition. -/
import Derived.Test.YtdhakekndinbeaaImBase
namespace Go.Proofs.Ytdhakekndinbeaa
open Go.RowKit
set_option linter.unusedVariables false
/-- The last one that has these numbers. -/
def findW (R : Nat → SN) (f : Nat) (q p : Int) : Nat → Option Int
  | 0 => none
  | c + 1 => if (R ((f + c) % 5)).1 = q ∧ (R ((f + c) % 5)).2.2 = p then some (R ((f + c) % 5)).2.1 else findW R f q p c
def foundV (o : Option Int) : Value := match o with | some n => .tuple #[.int .i64 n, .bool true] | none => .tuple #[.int .i64 0, .bool false]
set_option maxHeartbeats 8000000 in
set_option maxRecDepth 100000 in
theorem wfind_c (b : Nat) (e : Int) (R : Nat → SN) (f c : Nat) (q p : Int) (W : World) (h : PrIs W b e R f c) :
    Calls Try.prog 26 #[.pointer (some ⟨b, 1, none⟩), .int .i64 q, .int .i64 p] W (Good W (foundV (findW R f q p c))) := by
  obtain ⟨_, x1, x2, hlt⟩ := h.cells
  have hc5 := h.c5
  have hw : IntKind.i64.wrap ((c : Int) - 1) = (c : Int) - 1 := by rw [IntKind.wrap_i64]; omega
  have H0 := Lib.hid h
  clear h
  go_enter Try.func26, Try.ntmps26
  go_wp2_with fail
  clear x1 x2 hw
  go_loopw [8] (fun i wr => ∃ k : Nat, i = .int .i64 ((k : Int) - 1) ∧ k ≤ c ∧ findW R f q p c = findW R f q p k ∧ Below W.heap.size W wr) (fun i _ => (intOf i + 1).toNat)
  case atStart => exact ⟨c, rfl, Nat.le_refl _, rfl, Below.refl _ _⟩
  case round =>
    obtain ⟨k, rfl, hk, hf, hB⟩ := hrel
    have HB := Lib.hid hB
    have HF := Lib.hid hf
    clear hB hf
    cases k with
    | zero =>
      have hn : findW R f q p c = none := HF.out
      have HN := Lib.hid hn
      clear hn
      go_wp2_with fail
      go_ret2
      exact ⟨by rw [HN.out]; rfl, HB.out⟩
    | succ j =>
      rw [show ((j + 1 : Nat) : Int) - 1 = (j : Int) by omega]
      have ca := at_c b e R f c j wr (H0.out.later HB.out) (by omega)
      have HFS : Hid (findW R f q p (j + 1) = if (R ((f + j) % 5)).1 = q ∧ (R ((f + j) % 5)).2.2 = p then some (R ((f + j) % 5)).2.1 else findW R f q p j) := Lib.hid rfl
      have hj0 : (0 : Int) ≤ (j : Int) := by omega
      have hw : IntKind.i64.wrap ((j : Int) - 1) = (j : Int) - 1 := by rw [IntKind.wrap_i64]; omega
      unfold snV at ca
      generalize R ((f + j) % 5) = s at *
      obtain ⟨s1, s2, s3⟩ := s
      simp only at ca HFS
      go_wp2_with fail
      with_reducible refine ca.mono ?_
      rintro en w1 ⟨rfl, hb1⟩
      have HB1 := Lib.hid ((HB.out.trans (hb1.mono HB.out.size)).alloc (Nat.le_trans HB.out.size hb1.size) (.cells #[.int .i64 s1, .int .i64 s2, .int .i64 s3] 62))
      clear hb1 ca HB
      by_cases h1 : s1 = q
      · by_cases h2 : s3 = p
        · have HY : Hid (findW R f q p c = some s2) := Lib.hid (by rw [HF.out, HFS.out, if_pos ⟨h1, h2⟩])
          subst h1
          subst h2
          go_wp2_with fail
          go_ret2
          exact ⟨by rw [HY.out]; rfl, HB1.out⟩
        · have HY : Hid (findW R f q p c = findW R f q p j) := Lib.hid (by rw [HF.out, HFS.out, if_neg (fun h => h2 h.2)])
          have h2' : (s3 == p) = false := by simp [h2]
          subst h1
          go_wp2_with fail
          go_roundw
          case rel => exact ⟨j, rfl, by omega, HY.out, HB1.out⟩
          case measure => simp [intOf] <;> omega
      · have HY : Hid (findW R f q p c = findW R f q p j) := Lib.hid (by rw [HF.out, HFS.out, if_neg (fun h => h1 h.1)])
        have h1' : (s1 == q) = false := by simp [h1]
        go_wp2_with fail
        go_roundw
        case rel => exact ⟨j, rfl, by omega, HY.out, HB1.out⟩
        case measure => simp [intOf] <;> omega
/-- The number that is to come. -/
def nextW (R : Nat → SN) (f c : Nat) : Int := if c = 0 then 0 else (R ((f + (c - 1)) % 5)).1 + (R ((f + (c - 1)) % 5)).2.2
def okN (s : SN) : Prop := 0 ≤ s.1 ∧ s.1 ≤ 1073741824 ∧ 0 ≤ s.2.2 ∧ s.2.2 ≤ 50
set_option maxHeartbeats 8000000 in
set_option maxRecDepth 100000 in
theorem wnext_c (b : Nat) (e : Int) (R : Nat → SN) (f c : Nat) (W : World) (h : PrIs W b e R f c) (hR : ∀ k, k < 5 → okN (R k)) :
    Calls Try.prog 27 #[.pointer (some ⟨b, 1, none⟩)] W (Good W (.int .i64 (nextW R f c))) := by
  obtain ⟨_, x1, x2, hlt⟩ := h.cells
  have hc5 := h.c5
  unfold nextW
  cases c with
  | zero =>
    rw [if_pos rfl]
    clear h
    go_enter Try.func27, Try.ntmps27
    go_wp2_with fail
    go_ret
    exact ⟨rfl, Below.refl _ _⟩
  | succ j =>
    rw [if_neg (by omega), Nat.add_sub_cancel]
    have ca := at_c b e R f (j + 1) j W h (by omega)
    have hok := hR ((f + j) % 5) (Nat.mod_lt _ (by decide))
    have hw : IntKind.i64.wrap (((j + 1 : Nat) : Int) - 1) = (j : Int) := by rw [IntKind.wrap_i64]; omega
    have hw2 : IntKind.i64.wrap ((j : Int) + 1 - 1) = (j : Int) := by rw [IntKind.wrap_i64]; omega
    have hw3 : IntKind.i64.wrap (j : Int) = (j : Int) := by rw [IntKind.wrap_i64]; omega
    have hz : (((j + 1 : Nat) : Int) == 0) = false := by simp; omega
    unfold snV at ca
    generalize R ((f + j) % 5) = s at *
    unfold okN at hok
    have hw4 : IntKind.i64.wrap (s.1 + s.2.2) = s.1 + s.2.2 := by rw [IntKind.wrap_i64]; omega
    clear h hR hok
    go_enter Try.func27, Try.ntmps27
    go_wp2_with fail
    with_reducible refine ca.mono ?_
    rintro en w1 ⟨rfl, hb1⟩
    go_wp2_with fail
    go_ret
    exact ⟨rfl, hb1.alloc hb1.size _⟩
end Go.Proofs.Ytdhakekndinbeaa
