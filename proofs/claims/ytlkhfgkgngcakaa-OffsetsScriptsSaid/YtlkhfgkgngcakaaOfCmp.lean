/- offsets: the order of keys: plain words. No condition. -/
import Derived.Test.YtlkhfgkgngcakaaOfRm
import Derived.Lib.Small
import Derived.Lib.Bytealg
import Derived.Shelf.SlSortCmp.NoneTotal
namespace Go.Proofs.Ytlkhfgkgngcakaa
open Go.RowKit Go.Maps Go.Lib Go.Sort
set_option linter.unusedVariables false
/-- A comparison that parts whatever two that are not one, and is an order. -/
structure TriC {α : Type} (c : α → α → Int) : Prop where
  zero : ∀ x y, c x y = 0 ↔ x = y
  turn : ∀ x y, c x y < 0 ↔ 0 < c y x
  trans : ∀ x y z, c x y < 0 → c y z < 0 → c x z < 0
theorem tri_bytes : TriC Lib.compareBytes := by
  have z : ∀ x y : List UInt8, Lib.compareBytes x y = 0 ↔ x = y := by
    intro x
    induction x with
    | nil => intro y; cases y <;> simp [Lib.compareBytes]
    | cons a al ih =>
      intro y
      cases y with
      | nil => simp [Lib.compareBytes]
      | cons b bs =>
        unfold Lib.compareBytes
        by_cases h1 : a < b
        · simp [h1]
          intro e; subst e; exact absurd h1 (by simp)
        · by_cases h2 : b < a
          · simp [h1, h2]
            intro e; subst e; exact absurd h2 (by simp)
          · have e : a = b := by
              apply UInt8.toNat_inj.1
              simp only [UInt8.lt_iff_toNat_lt] at h1 h2
              omega
            subst e
            simp [ih bs]
  have t : ∀ x y : List UInt8, Lib.compareBytes x y < 0 ↔ 0 < Lib.compareBytes y x := by
    intro x
    induction x with
    | nil => intro y; cases y <;> simp [Lib.compareBytes]
    | cons a al ih =>
      intro y
      cases y with
      | nil => simp [Lib.compareBytes]
      | cons b bs =>
        unfold Lib.compareBytes
        by_cases h1 : a < b
        · have h2 : ¬ b < a := by simp only [UInt8.lt_iff_toNat_lt] at *; omega
          simp [h1, h2]
        · by_cases h2 : b < a
          · simp [h1, h2]
          · simp [h1, h2, ih bs]
  refine ⟨z, t, ?_⟩
  intro x
  induction x with
  | nil =>
    intro y w h1 h2
    cases y <;> cases w <;> simp [Lib.compareBytes] at *
  | cons a al ih =>
    intro y w h1 h2
    cases y with
    | nil => simp [Lib.compareBytes] at h1
    | cons b bs =>
      cases w with
      | nil => simp [Lib.compareBytes] at h2
      | cons c cs =>
        unfold Lib.compareBytes at h1 h2 ⊢
        simp only [UInt8.lt_iff_toNat_lt] at *
        by_cases p1 : a.toNat < b.toNat
        · by_cases p2 : b.toNat < c.toNat
          · rw [if_pos (by omega)]; omega
          · rw [if_neg p2] at h2
            by_cases p3 : c.toNat < b.toNat
            · rw [if_pos p3] at h2; omega
            · rw [if_pos (by omega)]; omega
        · rw [if_neg p1] at h1
          by_cases p4 : b.toNat < a.toNat
          · rw [if_pos p4] at h1; omega
          · rw [if_neg p4] at h1
            by_cases p2 : b.toNat < c.toNat
            · rw [if_pos (by omega)]; omega
            · rw [if_neg p2] at h2
              by_cases p3 : c.toNat < b.toNat
              · rw [if_pos p3] at h2; omega
              · rw [if_neg p3] at h2
                rw [if_neg (by omega), if_neg (by omega)]
                exact ih bs cs h1 h2
theorem tri_int : TriC Lib.compareInt := by
  unfold Lib.compareInt
  refine ⟨fun x y => ?_, fun x y => ?_, fun x y z h1 h2 => ?_⟩
  · by_cases h1 : x < y
    · rw [if_pos h1]; constructor
      · intro h; omega
      · intro h; omega
    · rw [if_neg h1]
      by_cases h2 : x > y
      · rw [if_pos h2]; constructor
        · intro h; omega
        · intro h; omega
      · rw [if_neg h2]; constructor
        · intro h; omega
        · intro h; rfl
  · by_cases h1 : x < y
    · rw [if_pos h1, if_neg (by omega), if_pos (by omega)]; constructor <;> intro h <;> omega
    · rw [if_neg h1]
      by_cases h2 : x > y
      · rw [if_pos h2, if_pos (by omega)]; constructor <;> intro h <;> omega
      · rw [if_neg h2, if_neg (by omega), if_neg (by omega)]
  · have e1 : x < y := by
      by_cases h : x < y
      · exact h
      · rw [if_neg h] at h1; split at h1 <;> omega
    have e2 : y < z := by
      by_cases h : y < z
      · exact h
      · rw [if_neg h] at h2; split at h2 <;> omega
    rw [if_pos (by omega)]; omega
/-- The first of three that is not 0. -/
def or3 (a b c : Int) : Int := if a = 0 then (if b = 0 then c else b) else a
/-- Which of two keys comes first: by group, by topic, by number. -/
def cfK (x y : KY) : Int := or3 (Lib.compareBytes x.g.data.toList y.g.data.toList) (Lib.compareBytes x.t.data.toList y.t.data.toList) (Lib.compareInt x.i y.i)
theorem ba_inj {a b : ByteArray} (h : a.data.toList = b.data.toList) : a = b := ByteArray.ext (Array.toList_inj.1 h)
theorem ky_ext {x y : KY} (h1 : x.g = y.g) (h2 : x.t = y.t) (h3 : x.i = y.i) : x = y := by
  cases x; cases y; simp only at h1 h2 h3; subst h1 h2 h3; rfl
theorem tri_key : TriC cfK := by
  have b := tri_bytes
  have n := tri_int
  unfold cfK or3
  refine ⟨fun x y => ?_, fun x y => ?_, fun x y z => ?_⟩
  · have g0 := b.zero x.g.data.toList y.g.data.toList
    have t0 := b.zero x.t.data.toList y.t.data.toList
    have i0 := n.zero x.i y.i
    constructor
    · intro h
      split at h
      · rename_i e1
        split at h
        · rename_i e2
          exact ky_ext (ba_inj (g0.1 e1)) (ba_inj (t0.1 e2)) (i0.1 h)
        · omega
      · omega
    · rintro rfl
      rw [if_pos (g0.2 rfl), if_pos (t0.2 rfl)]
      exact i0.2 rfl
  · have g0 := b.zero x.g.data.toList y.g.data.toList
    have g1 := b.zero y.g.data.toList x.g.data.toList
    have t0 := b.zero x.t.data.toList y.t.data.toList
    have t1 := b.zero y.t.data.toList x.t.data.toList
    have gt := b.turn x.g.data.toList y.g.data.toList
    have tt := b.turn x.t.data.toList y.t.data.toList
    have it := n.turn x.i y.i
    by_cases e1 : x.g.data.toList = y.g.data.toList
    · rw [if_pos (g0.2 e1), if_pos (g1.2 e1.symm)]
      by_cases e2 : x.t.data.toList = y.t.data.toList
      · rw [if_pos (t0.2 e2), if_pos (t1.2 e2.symm)]
        exact it
      · rw [if_neg (fun h => e2 (t0.1 h)), if_neg (fun h => e2 (t1.1 h).symm)]
        exact tt
    · rw [if_neg (fun h => e1 (g0.1 h)), if_neg (fun h => e1 (g1.1 h).symm)]
      exact gt
  · have g1 := b.zero x.g.data.toList y.g.data.toList
    have g2 := b.zero y.g.data.toList z.g.data.toList
    have g3 := b.zero x.g.data.toList z.g.data.toList
    have t1 := b.zero x.t.data.toList y.t.data.toList
    have t2 := b.zero y.t.data.toList z.t.data.toList
    have t3 := b.zero x.t.data.toList z.t.data.toList
    intro h1 h2
    by_cases e1 : x.g.data.toList = y.g.data.toList
    · rw [if_pos (g1.2 e1)] at h1
      by_cases e2 : y.g.data.toList = z.g.data.toList
      · rw [if_pos (g2.2 e2)] at h2
        rw [if_pos (g3.2 (e1.trans e2))]
        by_cases f1 : x.t.data.toList = y.t.data.toList
        · rw [if_pos (t1.2 f1)] at h1
          by_cases f2 : y.t.data.toList = z.t.data.toList
          · rw [if_pos (t2.2 f2)] at h2
            rw [if_pos (t3.2 (f1.trans f2))]
            exact n.trans _ _ _ h1 h2
          · rw [if_neg (fun h => f2 (t2.1 h))] at h2
            rw [f1, if_neg (fun h => f2 (t2.1 h))]
            exact h2
        · rw [if_neg (fun h => f1 (t1.1 h))] at h1
          by_cases f2 : y.t.data.toList = z.t.data.toList
          · rw [← f2, if_neg (fun h => f1 (t1.1 h))]
            exact h1
          · rw [if_neg (fun h => f2 (t2.1 h))] at h2
            have h3 := b.trans _ _ _ h1 h2
            rw [if_neg (by omega)]
            exact h3
      · rw [if_neg (fun h => e2 (g2.1 h))] at h2
        rw [e1, if_neg (fun h => e2 (g2.1 h))]
        exact h2
    · rw [if_neg (fun h => e1 (g1.1 h))] at h1
      by_cases e2 : y.g.data.toList = z.g.data.toList
      · rw [← e2, if_neg (fun h => e1 (g1.1 h))]
        exact h1
      · rw [if_neg (fun h => e2 (g2.1 h))] at h2
        have h3 := b.trans _ _ _ h1 h2
        rw [if_neg (by omega)]
        exact h3
theorem swoK : SWO (ltOf cfK) where
  irrefl x := by unfold ltOf; rw [(tri_key.zero x x).2 rfl]; rfl
  trans x y z h1 h2 := by unfold ltOf at *; simp only [decide_eq_true_eq] at *; exact tri_key.trans x y z h1 h2
  ntrans x y z h1 h2 := by
    unfold ltOf at *
    simp only [decide_eq_false_iff_not] at *
    intro h
    by_cases e1 : cfK x y = 0
    · have := (tri_key.zero x y).1 e1; subst this; exact h2 h
    · by_cases e2 : cfK y z = 0
      · have := (tri_key.zero y z).1 e2; subst this; exact h1 h
      · have k1 := (tri_key.turn y x).2 (by omega)
        have k2 := (tri_key.turn z y).2 (by omega)
        have k3 := tri_key.trans _ _ _ k2 k1
        have k4 := (tri_key.turn z x).1 k3
        omega
theorem partsK (x y : KY) (h1 : ltOf cfK x y = false) (h2 : ltOf cfK y x = false) : x = y := by
  unfold ltOf at *
  simp only [decide_eq_false_iff_not] at *
  apply (tri_key.zero x y).1
  by_cases e : cfK x y = 0
  · exact e
  · exact absurd ((tri_key.turn y x).2 (by omega)) h2
/-- Keys in their order. -/
def sortK (l : List KY) : List KY := l.mergeSort fun x y => !(ltOf cfK) y x
theorem leK_trans (a b c : KY) (h1 : (!(ltOf cfK) b a) = true) (h2 : (!(ltOf cfK) c b) = true) : (!(ltOf cfK) c a) = true := by
  simp only [Bool.not_eq_true'] at *
  exact swoK.ntrans c b a h2 h1
theorem leK_total (a b : KY) : (!(ltOf cfK) b a || !(ltOf cfK) a b) = true := by
  cases h : ltOf cfK b a with
  | false => rfl
  | true =>
    cases h2 : ltOf cfK a b with
    | false => rfl
    | true =>
      have := swoK.trans _ _ _ h h2
      rw [swoK.irrefl] at this
      cases this
theorem sortK_perm (l : List KY) : (sortK l).Perm l := List.mergeSort_perm l _
theorem sortK_sorted (l : List KY) : (sortK l).Pairwise fun a b => (!(ltOf cfK) b a) = true := List.pairwise_mergeSort leK_trans leK_total l
/-- PERMUTATIONS SORT TO ONE LIST. -/
theorem sortK_of_perm {l l' : List KY} (h : l.Perm l') : sortK l = sortK l' := by
  refine List.Perm.eq_of_pairwise (le := fun a b => (!(ltOf cfK) b a) = true) (fun a b _ _ h1 h2 => ?_) (sortK_sorted l) (sortK_sorted l') (((sortK_perm l).trans h).trans (sortK_perm l').symm)
  simp only [Bool.not_eq_true'] at h1 h2
  exact partsK a b h2 h1
theorem sortK_rise {l : List KY} (h : l.Nodup) : (sortK l).Pairwise fun a b => cfK a b < 0 := by
  have hn : (sortK l).Nodup := (sortK_perm l).nodup_iff.2 h
  have := List.Pairwise.and (sortK_sorted l) hn
  refine this.imp ?_
  rintro a b ⟨h1, h2⟩
  simp only [Bool.not_eq_true'] at h1
  unfold ltOf at h1
  simp only [decide_eq_false_iff_not] at h1
  by_cases e : cfK a b = 0
  · exact absurd ((tri_key.zero a b).1 e) h2
  · by_cases e2 : cfK a b < 0
    · exact e2
    · exact absurd ((tri_key.turn b a).2 (by omega)) h1
end Go.Proofs.Ytlkhfgkgngcakaa
