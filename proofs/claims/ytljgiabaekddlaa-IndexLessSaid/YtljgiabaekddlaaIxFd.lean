/- index: sort.Search over a test of entries; Find and Seek. No condition. -/
import Derived.Test.YtljgiabaekddlaaIxRd
namespace Go.Proofs.Ytljgiabaekddlaa
open Go.RowKit
set_option linter.unusedVariables false
def GotSearch (W : World) (n : Nat) (Q : Nat → Bool) (en : Ending) (w' : World) : Prop :=
  ∃ r : Nat, en = .returned (.int .i64 r) ∧ r ≤ n ∧ (∀ k, k < r → Q k = false) ∧ (∀ k, r ≤ k → k < n → Q k = true) ∧ Below W.heap.size W w'
structure SrS (W : World) (n : Nat) (Q : Nat → Bool) (a b : Nat) (w : World) : Prop where
  ab : a ≤ b
  bn : b ≤ n
  lo : ∀ k, k < a → Q k = false
  hi : ∀ k, b ≤ k → k < n → Q k = true
  bel : Below W.heap.size W w
theorem SrS.up {W w w' : World} {n a b m : Nat} {Q : Nat → Bool} (h : SrS W n Q a b w) (hb : Below w.heap.size w w') (hm : a ≤ m) (hm2 : m < b) (hmono : ∀ i j, i ≤ j → j < n → Q i = true → Q j = true) (hq : Q m = false) : SrS W n Q (m + 1) b w' := by
  refine ⟨hm2, h.bn, fun k hk => ?_, h.hi, h.bel.trans (hb.mono h.bel.size)⟩
  cases hk2 : Q k with
  | false => rfl
  | true =>
    have := hmono k m (by omega) (by have := h.bn; omega) hk2
    rw [hq] at this
    cases this
theorem SrS.down {W w w' : World} {n a b m : Nat} {Q : Nat → Bool} (h : SrS W n Q a b w) (hb : Below w.heap.size w w') (hm : a ≤ m) (hm2 : m < b) (hmono : ∀ i j, i ≤ j → j < n → Q i = true → Q j = true) (hq : Q m = true) : SrS W n Q a m w' :=
  ⟨hm, by have := h.bn; omega, h.lo, fun k hk hkn => hmono m k hk hkn hq, h.bel.trans (hb.mono h.bel.size)⟩
set_option maxHeartbeats 4000000 in
set_option maxRecDepth 100000 in
theorem search_c (n : Nat) (P1 P2 : Nat) (Q : Nat → Bool) (W : World) (hn : n ≤ 1000000)
    (hf : ∀ i, i < n → ∀ w, Below W.heap.size W w → Calls Try.prog 28 #[.int .i64 (i : Nat), .pointer (some ⟨P1, 0, none⟩), .pointer (some ⟨P2, 0, none⟩)] w (Good w (.bool (Q i))))
    (hmono : ∀ i j, i ≤ j → j < n → Q i = true → Q j = true) :
    Calls Try.prog 27 #[.int .i64 n, .func (.func 28) #[] #[.pointer (some ⟨P1, 0, none⟩), .pointer (some ⟨P2, 0, none⟩)]] W (GotSearch W n Q) := by
  have HF := Lib.hid hf
  have HM := Lib.hid hmono
  have H0 : Hid (SrS W n Q 0 n W) := Lib.hid ⟨Nat.zero_le _, Nat.le_refl _, (fun k hk => by omega), (fun k h1 h2 => by omega), Below.refl _ _⟩
  clear hf hmono
  go_enter Try.func27, Try.ntmps27
  go_wp2_with fail
  go_loopw [5, 6] (fun i j wr => ∃ a b : Nat, i = .int .i64 a ∧ j = .int .i64 b ∧ SrS W n Q a b wr) (fun i j _ => (intOf j).toNat - (intOf i).toNat)
  case atStart => exact ⟨0, n, rfl, rfl, H0.out⟩
  case round =>
    obtain ⟨a, b, rfl, rfl, hS⟩ := hrel
    clear H0
    have hbn := hS.bn
    by_cases hab : a < b
    · have habi : (a : Int) < (b : Int) := by omega
      obtain ⟨m, hm⟩ : ∃ m : Nat, m = (a + b) / 2 := ⟨_, rfl⟩
      have hm1 : a ≤ m := by omega
      have hm2 : m < b := by omega
      have g1 : IntKind.i64.wrap ((a : Int) + (b : Int)) = (a : Int) + (b : Int) := IntWalk.i64_in _ (by omega)
      have cf := HF.out m (by omega) wr hS.bel
      have HS := Lib.hid hS
      have HMM := Lib.hid (And.intro hm1 hm2)
      have hm6 : m ≤ 1000000 := by omega
      have g2 : ((a : Int) + (b : Int)) / 2 = (m : Int) := by omega
      cases hq : Q m with
      | true =>
        rw [hq] at cf
        have HQ := Lib.hid hq
        clear hS hbn hm hq
        go_wp2_with fail
        (with_reducible refine cf.mono ?_)
        rintro e w1 ⟨rfl, hb1⟩
        have H1 := Lib.hid (HS.out.down hb1 HMM.out.1 HMM.out.2 HM.out HQ.out)
        clear hb1 cf
        go_wp2_with fail
        go_roundw
        case rel => exact ⟨a, m, rfl, rfl, H1.out⟩
        case measure => simp [intOf]; omega
      | false =>
        rw [hq] at cf
        have HQ := Lib.hid hq
        clear hS hbn hm hq
        go_wp2_with fail
        (with_reducible refine cf.mono ?_)
        rintro e w1 ⟨rfl, hb1⟩
        have H1 := Lib.hid (HS.out.up hb1 HMM.out.1 HMM.out.2 HM.out HQ.out)
        clear hb1 cf
        go_wp2_with fail
        go_roundw
        case rel => exact ⟨m + 1, b, by go_num, rfl, H1.out⟩
        case measure => simp [intOf]; omega
    · have hba : b = a := by have := hS.ab; omega
      subst hba
      have HS := Lib.hid hS
      clear hS hbn
      go_wp2_with fail
      go_ret
      exact ⟨b, rfl, HS.out.bn, HS.out.lo, HS.out.hi, HS.out.bel⟩
/-- The place that a test leaves: of the last entry that is not beyond. -/
def aheadG (L : List En) (Q : En → Bool) : Int := (((L.takeWhile fun e => !Q e).getLast?).getD (0, 0, 0)).2.1
theorem aheadG_at {L : List En} {Q : En → Bool} {r : Nat} (hr : r ≤ L.length) (h0 : ∀ k e, k < r → L[k]? = some e → Q e = false) (h1 : ∀ k e, r ≤ k → L[k]? = some e → Q e = true) : aheadG L Q = if r = 0 then 0 else ((L[r - 1]?).getD (0, 0, 0)).2.1 := by
  have ht : (L.takeWhile fun e => !Q e) = L.take r := by
    have e : L = L.take r ++ L.drop r := (List.take_append_drop r L).symm
    have ha : ∀ x ∈ L.take r, (!Q x) = true := fun x hx => by
      obtain ⟨k, hk⟩ := List.getElem?_of_mem hx
      have hkr : k < r := by have := (List.getElem?_eq_some_iff.1 hk).1; rw [List.length_take] at this; omega
      rw [List.getElem?_take_of_lt hkr] at hk
      rw [h0 k x hkr hk]
      rfl
    have hb : (L.drop r).takeWhile (fun e => !Q e) = [] := by
      cases hd : L.drop r with
      | nil => rfl
      | cons y l =>
        have hy : L[r]? = some y := by
          have := congrArg (fun m => m[0]?) hd
          simpa [List.getElem?_drop] using this
        rw [List.takeWhile_cons_of_neg (by rw [h1 r y (Nat.le_refl _) hy]; decide)]
    rw [e, List.takeWhile_append_of_pos ha, hb, List.append_nil, ← e]
  unfold aheadG
  rw [ht]
  by_cases h : r = 0
  · subst h; rfl
  · rw [if_neg h, List.getLast?_eq_getElem?, List.length_take, Nat.min_eq_left hr, List.getElem?_take_of_lt (by omega)]
end Go.Proofs.Ytljgiabaekddlaa
