/- coord: merged texts. What each proves is told at its head. -/
import Derived.Test.YtlokhhjhckiloaaGreatQ1
import Derived.Lib.Small
import Derived.Lib.Bytealg
import Derived.Shelf.SlSortCmp.NoneTotal
import Derived.Sort.KeysCollected
import Derived.Test.YtlokhhjhckiloaaGreatQ0
import Derived.Sort.Walk0
import Derived.Laws.StructEq
import Derived.Shelf.SlicesE.Kit
import Derived.Test.YtlokhhjhckiloaaGreatKgA
/- offsets: the order of keys: plain words. No condition. -/
namespace Go.Proofs.YtlokhhjhckiloaaGreat.Of
open Go.RowKit Go.Maps Go.Lib Go.Sort
set_option linter.unusedVariables false
/-- A comparison that parts whatever two that are not one, and is an order. -/
structure TriC {α : Type} (c : α → α → Int) : Prop where
  zero : ∀ x y, c x y = 0 ↔ x = y
  turn : ∀ x y, c x y < 0 ↔ 0 < c y x
  trans : ∀ x y z, c x y < 0 → c y z < 0 → c x z < 0
theorem tri_bytes : TriC Lib.compareBytes := by
  have z : ∀ x y : List UInt8, Lib.compareBytes x y = 0 ↔ x = y := by
    intro x
    induction x with
    | nil => intro y; cases y <;> simp [Lib.compareBytes]
    | cons a al ih =>
      intro y
      cases y with
      | nil => simp [Lib.compareBytes]
      | cons b bs =>
        unfold Lib.compareBytes
        by_cases h1 : a < b
        · simp [h1]
          intro e; subst e; exact absurd h1 (by simp)
        · by_cases h2 : b < a
          · simp [h1, h2]
            intro e; subst e; exact absurd h2 (by simp)
          · have e : a = b := by
              apply UInt8.toNat_inj.1
              simp only [UInt8.lt_iff_toNat_lt] at h1 h2
              omega
            subst e
            simp [ih bs]
  have t : ∀ x y : List UInt8, Lib.compareBytes x y < 0 ↔ 0 < Lib.compareBytes y x := by
    intro x
    induction x with
    | nil => intro y; cases y <;> simp [Lib.compareBytes]
    | cons a al ih =>
      intro y
      cases y with
      | nil => simp [Lib.compareBytes]
      | cons b bs =>
        unfold Lib.compareBytes
        by_cases h1 : a < b
        · have h2 : ¬ b < a := by simp only [UInt8.lt_iff_toNat_lt] at *; omega
          simp [h1, h2]
        · by_cases h2 : b < a
          · simp [h1, h2]
          · simp [h1, h2, ih bs]
  refine ⟨z, t, ?_⟩
  intro x
  induction x with
  | nil =>
    intro y w h1 h2
    cases y <;> cases w <;> simp [Lib.compareBytes] at *
  | cons a al ih =>
    intro y w h1 h2
    cases y with
    | nil => simp [Lib.compareBytes] at h1
    | cons b bs =>
      cases w with
      | nil => simp [Lib.compareBytes] at h2
      | cons c cs =>
        unfold Lib.compareBytes at h1 h2 ⊢
        simp only [UInt8.lt_iff_toNat_lt] at *
        by_cases p1 : a.toNat < b.toNat
        · by_cases p2 : b.toNat < c.toNat
          · rw [if_pos (by omega)]; omega
          · rw [if_neg p2] at h2
            by_cases p3 : c.toNat < b.toNat
            · rw [if_pos p3] at h2; omega
            · rw [if_pos (by omega)]; omega
        · rw [if_neg p1] at h1
          by_cases p4 : b.toNat < a.toNat
          · rw [if_pos p4] at h1; omega
          · rw [if_neg p4] at h1
            by_cases p2 : b.toNat < c.toNat
            · rw [if_pos (by omega)]; omega
            · rw [if_neg p2] at h2
              by_cases p3 : c.toNat < b.toNat
              · rw [if_pos p3] at h2; omega
              · rw [if_neg p3] at h2
                rw [if_neg (by omega), if_neg (by omega)]
                exact ih bs cs h1 h2
theorem tri_int : TriC Lib.compareInt := by
  unfold Lib.compareInt
  refine ⟨fun x y => ?_, fun x y => ?_, fun x y z h1 h2 => ?_⟩
  · by_cases h1 : x < y
    · rw [if_pos h1]; constructor
      · intro h; omega
      · intro h; omega
    · rw [if_neg h1]
      by_cases h2 : x > y
      · rw [if_pos h2]; constructor
        · intro h; omega
        · intro h; omega
      · rw [if_neg h2]; constructor
        · intro h; omega
        · intro h; rfl
  · by_cases h1 : x < y
    · rw [if_pos h1, if_neg (by omega), if_pos (by omega)]; constructor <;> intro h <;> omega
    · rw [if_neg h1]
      by_cases h2 : x > y
      · rw [if_pos h2, if_pos (by omega)]; constructor <;> intro h <;> omega
      · rw [if_neg h2, if_neg (by omega), if_neg (by omega)]
  · have e1 : x < y := by
      by_cases h : x < y
      · exact h
      · rw [if_neg h] at h1; split at h1 <;> omega
    have e2 : y < z := by
      by_cases h : y < z
      · exact h
      · rw [if_neg h] at h2; split at h2 <;> omega
    rw [if_pos (by omega)]; omega
/-- The first of three that is not 0. -/
def or3 (a b c : Int) : Int := if a = 0 then (if b = 0 then c else b) else a
/-- Which of two keys comes first: by group, by topic, by number. -/
def cfK (x y : KY) : Int := or3 (Lib.compareBytes x.g.data.toList y.g.data.toList) (Lib.compareBytes x.t.data.toList y.t.data.toList) (Lib.compareInt x.i y.i)
theorem ba_inj {a b : ByteArray} (h : a.data.toList = b.data.toList) : a = b := ByteArray.ext (Array.toList_inj.1 h)
theorem ky_ext {x y : KY} (h1 : x.g = y.g) (h2 : x.t = y.t) (h3 : x.i = y.i) : x = y := by
  cases x; cases y; simp only at h1 h2 h3; subst h1 h2 h3; rfl
theorem tri_key : TriC cfK := by
  have b := tri_bytes
  have n := tri_int
  unfold cfK or3
  refine ⟨fun x y => ?_, fun x y => ?_, fun x y z => ?_⟩
  · have g0 := b.zero x.g.data.toList y.g.data.toList
    have t0 := b.zero x.t.data.toList y.t.data.toList
    have i0 := n.zero x.i y.i
    constructor
    · intro h
      split at h
      · rename_i e1
        split at h
        · rename_i e2
          exact ky_ext (ba_inj (g0.1 e1)) (ba_inj (t0.1 e2)) (i0.1 h)
        · omega
      · omega
    · rintro rfl
      rw [if_pos (g0.2 rfl), if_pos (t0.2 rfl)]
      exact i0.2 rfl
  · have g0 := b.zero x.g.data.toList y.g.data.toList
    have g1 := b.zero y.g.data.toList x.g.data.toList
    have t0 := b.zero x.t.data.toList y.t.data.toList
    have t1 := b.zero y.t.data.toList x.t.data.toList
    have gt := b.turn x.g.data.toList y.g.data.toList
    have tt := b.turn x.t.data.toList y.t.data.toList
    have it := n.turn x.i y.i
    by_cases e1 : x.g.data.toList = y.g.data.toList
    · rw [if_pos (g0.2 e1), if_pos (g1.2 e1.symm)]
      by_cases e2 : x.t.data.toList = y.t.data.toList
      · rw [if_pos (t0.2 e2), if_pos (t1.2 e2.symm)]
        exact it
      · rw [if_neg (fun h => e2 (t0.1 h)), if_neg (fun h => e2 (t1.1 h).symm)]
        exact tt
    · rw [if_neg (fun h => e1 (g0.1 h)), if_neg (fun h => e1 (g1.1 h).symm)]
      exact gt
  · have g1 := b.zero x.g.data.toList y.g.data.toList
    have g2 := b.zero y.g.data.toList z.g.data.toList
    have g3 := b.zero x.g.data.toList z.g.data.toList
    have t1 := b.zero x.t.data.toList y.t.data.toList
    have t2 := b.zero y.t.data.toList z.t.data.toList
    have t3 := b.zero x.t.data.toList z.t.data.toList
    intro h1 h2
    by_cases e1 : x.g.data.toList = y.g.data.toList
    · rw [if_pos (g1.2 e1)] at h1
      by_cases e2 : y.g.data.toList = z.g.data.toList
      · rw [if_pos (g2.2 e2)] at h2
        rw [if_pos (g3.2 (e1.trans e2))]
        by_cases f1 : x.t.data.toList = y.t.data.toList
        · rw [if_pos (t1.2 f1)] at h1
          by_cases f2 : y.t.data.toList = z.t.data.toList
          · rw [if_pos (t2.2 f2)] at h2
            rw [if_pos (t3.2 (f1.trans f2))]
            exact n.trans _ _ _ h1 h2
          · rw [if_neg (fun h => f2 (t2.1 h))] at h2
            rw [f1, if_neg (fun h => f2 (t2.1 h))]
            exact h2
        · rw [if_neg (fun h => f1 (t1.1 h))] at h1
          by_cases f2 : y.t.data.toList = z.t.data.toList
          · rw [← f2, if_neg (fun h => f1 (t1.1 h))]
            exact h1
          · rw [if_neg (fun h => f2 (t2.1 h))] at h2
            have h3 := b.trans _ _ _ h1 h2
            rw [if_neg (by omega)]
            exact h3
      · rw [if_neg (fun h => e2 (g2.1 h))] at h2
        rw [e1, if_neg (fun h => e2 (g2.1 h))]
        exact h2
    · rw [if_neg (fun h => e1 (g1.1 h))] at h1
      by_cases e2 : y.g.data.toList = z.g.data.toList
      · rw [← e2, if_neg (fun h => e1 (g1.1 h))]
        exact h1
      · rw [if_neg (fun h => e2 (g2.1 h))] at h2
        have h3 := b.trans _ _ _ h1 h2
        rw [if_neg (by omega)]
        exact h3
theorem swoK : SWO (ltOf cfK) where
  irrefl x := by unfold ltOf; rw [(tri_key.zero x x).2 rfl]; rfl
  trans x y z h1 h2 := by unfold ltOf at *; simp only [decide_eq_true_eq] at *; exact tri_key.trans x y z h1 h2
  ntrans x y z h1 h2 := by
    unfold ltOf at *
    simp only [decide_eq_false_iff_not] at *
    intro h
    by_cases e1 : cfK x y = 0
    · have := (tri_key.zero x y).1 e1; subst this; exact h2 h
    · by_cases e2 : cfK y z = 0
      · have := (tri_key.zero y z).1 e2; subst this; exact h1 h
      · have k1 := (tri_key.turn y x).2 (by omega)
        have k2 := (tri_key.turn z y).2 (by omega)
        have k3 := tri_key.trans _ _ _ k2 k1
        have k4 := (tri_key.turn z x).1 k3
        omega
theorem partsK (x y : KY) (h1 : ltOf cfK x y = false) (h2 : ltOf cfK y x = false) : x = y := by
  unfold ltOf at *
  simp only [decide_eq_false_iff_not] at *
  apply (tri_key.zero x y).1
  by_cases e : cfK x y = 0
  · exact e
  · exact absurd ((tri_key.turn y x).2 (by omega)) h2
/-- Keys in their order. -/
def sortK (l : List KY) : List KY := l.mergeSort fun x y => !(ltOf cfK) y x
theorem leK_trans (a b c : KY) (h1 : (!(ltOf cfK) b a) = true) (h2 : (!(ltOf cfK) c b) = true) : (!(ltOf cfK) c a) = true := by
  simp only [Bool.not_eq_true'] at *
  exact swoK.ntrans c b a h2 h1
theorem leK_total (a b : KY) : (!(ltOf cfK) b a || !(ltOf cfK) a b) = true := by
  cases h : ltOf cfK b a with
  | false => rfl
  | true =>
    cases h2 : ltOf cfK a b with
    | false => rfl
    | true =>
      have := swoK.trans _ _ _ h h2
      rw [swoK.irrefl] at this
      cases this
theorem sortK_perm (l : List KY) : (sortK l).Perm l := List.mergeSort_perm l _
theorem sortK_sorted (l : List KY) : (sortK l).Pairwise fun a b => (!(ltOf cfK) b a) = true := List.pairwise_mergeSort leK_trans leK_total l
/-- PERMUTATIONS SORT TO ONE LIST. -/
theorem sortK_of_perm {l l' : List KY} (h : l.Perm l') : sortK l = sortK l' := by
  refine List.Perm.eq_of_pairwise (le := fun a b => (!(ltOf cfK) b a) = true) (fun a b _ _ h1 h2 => ?_) (sortK_sorted l) (sortK_sorted l') (((sortK_perm l).trans h).trans (sortK_perm l').symm)
  simp only [Bool.not_eq_true'] at h1 h2
  exact partsK a b h2 h1
theorem sortK_rise {l : List KY} (h : l.Nodup) : (sortK l).Pairwise fun a b => cfK a b < 0 := by
  have hn : (sortK l).Nodup := (sortK_perm l).nodup_iff.2 h
  have := List.Pairwise.and (sortK_sorted l) hn
  refine this.imp ?_
  rintro a b ⟨h1, h2⟩
  simp only [Bool.not_eq_true'] at h1
  unfold ltOf at h1
  simp only [decide_eq_false_iff_not] at h1
  by_cases e : cfK a b = 0
  · exact absurd ((tri_key.zero a b).1 e) h2
  · by_cases e2 : cfK a b < 0
    · exact e2
    · exact absurd ((tri_key.turn b a).2 (by omega)) h1
end Go.Proofs.YtlokhhjhckiloaaGreat.Of
/- offsets: the keys that have come out of its map, in whatever order: plain words. No condition. -/
namespace Go.Proofs.YtlokhhjhckiloaaGreat.Of
open Go.RowKit Go.Maps Go.ChangeMaps Go.WideMaps
set_option linter.unusedVariables false
theorem kyB_inj {x y : KY} (hx : KyOk x) (hy : KyOk y) (h : kyB x = kyB y) : x = y := by
  have h1 := kyKey x hx
  rw [h] at h1
  exact kyV_inj (kyKeyed.inj h1 (kyKey y hy))
/-- No key twice; a key is on the list just where the map has it and it is no longer to come. -/
def ColK (F : List KE) (left : Lit → Bool) (ss : List KY) : Prop := ss.Nodup ∧ ∀ x, x ∈ ss ↔ (KyOk x ∧ has (mapK F) (.string (kyB x)) = true ∧ left (.string (kyB x)) = false)
theorem ColK.start (F : List KE) : ColK F (has (mapK F)) [] := ⟨List.nodup_nil, fun x => by cases has (mapK F) (.string (kyB x)) <;> simp⟩
theorem ColK.step {F : List KE} {left : Lit → Bool} {ss : List KY} (h : ColK F left ss) {x : KY} (hx : KyOk x) {y : DataW Unit} (hlk : left (.string (kyB x)) = true) (hat : ∀ zd, (mapK F).atKey (.string (kyB x)) zd = y) : ColK F (fun z => left z && !z.sameKey (.string (kyB x))) (ss ++ [x]) := by
  have hhas : has (mapK F) (.string (kyB x)) = true := has_true_of_atKey hat
  have hnew : x ∉ ss := fun hx => by have := ((h.2 x).1 hx).2.2; rw [hlk] at this; cases this
  refine ⟨List.nodup_append.2 ⟨h.1, by simp, fun a ha b hb => by simp at hb; subst hb; exact fun e => hnew (e ▸ ha)⟩, fun y => ?_⟩
  by_cases hy : y = x
  · subst hy; simp [hhas, Lit.sameKey, hx]
  · rw [List.mem_append, List.mem_singleton, h.2 y]
    constructor
    · rintro (⟨h1, h2, h3⟩ | h1)
      · exact ⟨h1, h2, by show (left _ && _) = false; rw [h3]; rfl⟩
      · exact absurd h1 hy
    · rintro ⟨h1, h2, h3⟩
      refine .inl ⟨h1, h2, ?_⟩
      have hne : kyB y ≠ kyB x := fun e => hy (kyB_inj h1 hx e)
      have : ((Lit.string (kyB y)).sameKey (Lit.string (kyB x))) = false := by simp [Lit.sameKey, hne]
      simpa [this] using h3
/-- At the end. -/
theorem ColK.perm {F : List KE} {left : Lit → Bool} {ss : List KY} (h : ColK F left ss) (hF : ∀ e ∈ F, KyOk e.1) (hr : F.Pairwise fun a b => bytesBefore (kyB a.1) (kyB b.1) = true) (hl : ∀ kl, left kl = false) : ss.Perm (F.map (·.1)) := by
  refine (List.perm_ext_iff_of_nodup h.1 ?_).2 fun x => ?_
  · refine List.pairwise_map.2 (hr.imp ?_)
    intro a b hab e
    rw [e] at hab
    have := Go.WideAt.bytes_irrefl (kyB b.1)
    rw [this] at hab
    cases hab
  · rw [h.2 x, hl]
    unfold mapK
    rw [has_eq, List.any_eq_true, List.mem_map]
    constructor
    · rintro ⟨h1, ⟨p, hp, hs⟩, _⟩
      obtain ⟨e, he, rfl⟩ := List.mem_map.1 hp
      refine ⟨e, he, ?_⟩
      have : kyB e.1 = kyB x := by simpa [Lit.sameKey, entK] using hs
      exact kyB_inj (hF e he) h1 this
    · rintro ⟨e, he, rfl⟩
      exact ⟨hF e he, ⟨entK e, List.mem_map.2 ⟨e, he, rfl⟩, by simp [Lit.sameKey, entK]⟩, rfl⟩
/-- Those of a table, in their order. -/
def keysOf (F : List KE) : List KY := sortK (F.map (·.1))
end Go.Proofs.YtlokhhjhckiloaaGreat.Of
/- offsets: plain words on texts and keys. No condition. -/
namespace Go.Proofs.YtlokhhjhckiloaaGreat.Of
open Go.RowKit Go.Maps Go.ChangeMaps Go.WideMaps Go.WideShapes Go.WideAt
set_option linter.unusedVariables false
theorem before_lt : ∀ a b : List UInt8, bytesBefore a b = true ↔ a < b
  | [], [] => by
    constructor
    · intro h; cases h
    · intro h; exact absurd h (List.not_lt_nil _)
  | [], b :: s => ⟨fun _ => List.nil_lt_cons _ _, fun _ => rfl⟩
  | a :: r, [] => by
    constructor
    · intro h; cases h
    · intro h; exact absurd h (List.not_lt_nil _)
  | a :: r, b :: s => by
    rw [show bytesBefore (a :: r) (b :: s) = (decide (a.toNat < b.toNat) || (a == b && bytesBefore r s)) from rfl, List.cons_lt_cons_iff, ← before_lt r s]
    simp only [Bool.or_eq_true, Bool.and_eq_true, decide_eq_true_eq, beq_iff_eq, UInt8.lt_iff_toNat_lt]
theorem less_before (a b : List UInt8) : Op.bytesLess a b = bytesBefore a b := by
  rw [Go.Proofs.bytesLess_eq, Bool.eq_iff_iff, decide_eq_true_eq, before_lt]
theorem cmp_before : ∀ a b : List UInt8, Lib.compareBytes a b < 0 ↔ bytesBefore a b = true
  | [], [] => by simp [Lib.compareBytes, bytesBefore]
  | [], b :: s => by simp [Lib.compareBytes, bytesBefore]
  | a :: r, [] => by simp [Lib.compareBytes, bytesBefore]
  | a :: r, b :: s => by
    rw [show bytesBefore (a :: r) (b :: s) = (decide (a.toNat < b.toNat) || (a == b && bytesBefore r s)) from rfl]
    unfold Lib.compareBytes
    simp only [Bool.or_eq_true, Bool.and_eq_true, decide_eq_true_eq, beq_iff_eq, UInt8.lt_iff_toNat_lt]
    by_cases h1 : a.toNat < b.toNat
    · rw [if_pos h1]; simp [h1]
    · rw [if_neg h1]
      by_cases h2 : b.toNat < a.toNat
      · rw [if_pos h2]
        constructor
        · intro h; omega
        · rintro (h | ⟨h, _⟩)
          · exact absurd h h1
          · subst h; omega
      · rw [if_neg h2, cmp_before r s]
        have e : a = b := UInt8.toNat_inj.1 (by omega)
        simp [e]
theorem less_of {a b : ByteArray} (h : Lib.compareBytes a.data.toList b.data.toList < 0) : Op.bytesLess a.toList b.toList = true := by
  rw [less_before, ByteArray.toList_eq, ByteArray.toList_eq]
  exact (cmp_before _ _).1 h
theorem less_self (a : ByteArray) : Op.bytesLess a.toList a.toList = false := by
  rw [less_before]; exact bytes_irrefl _
theorem beq_self (a : ByteArray) : (a.toList == a.toList) = true := by simp
/-- How two keys that rise stand to each other. -/
theorem cf_cases {x y : KY} (h : cfK x y < 0) : Op.bytesLess x.g.toList y.g.toList = true ∨ (x.g = y.g ∧ Op.bytesLess x.t.toList y.t.toList = true) ∨ (x.g = y.g ∧ x.t = y.t ∧ x.i < y.i) := by
  unfold cfK or3 at h
  split at h
  · rename_i e1
    have hg := ba_inj ((tri_bytes.zero _ _).1 e1)
    split at h
    · rename_i e2
      have ht := ba_inj ((tri_bytes.zero _ _).1 e2)
      refine .inr (.inr ⟨hg, ht, ?_⟩)
      unfold Lib.compareInt at h
      split at h
      · assumption
      · split at h <;> omega
    · exact .inr (.inl ⟨hg, less_of h⟩)
  · exact .inl (less_of h)
theorem keysOf_rise {w : World} {p g : Nat} {room : Int} {F : List KE} (h : OfIs w p g room F) : (keysOf F).Pairwise fun a b => cfK a b < 0 := by
  unfold keysOf
  refine sortK_rise (List.pairwise_map.2 (h.rise.imp ?_))
  intro a b hab e
  rw [e, bytes_irrefl] at hab
  cases hab
theorem str_ne' {a b : ByteArray} (h : a ≠ b) : (a.toList == b.toList) = false := by
  rw [str_eq]; exact decide_eq_false h
end Go.Proofs.YtlokhhjhckiloaaGreat.Of
/- offsets: when two parts, two keys are one: how the program tells. No condition. -/
namespace Go.Proofs.YtlokhhjhckiloaaGreat.Of
open Go.RowKit
set_option linter.unusedVariables false
set_option maxRecDepth 100000 in
theorem eqin_part (d : Nat) (a b : ByteArray) (i j : Int) (w : World) : (Op.equalIn (d + 2) 34 (.agg #[.string a, .int .i64 i]) (.agg #[.string b, .int .i64 j])).run Tryz.prog w = .ok (a.toList == b.toList && i == j) w := by
  have u3 := Tryz.underlying3
  have u9 := Tryz.underlying9
  have a3 := Tryz.isAgg3
  have z3 := Tryz.sizeOf3
  have a9 := Tryz.isAgg9
  have z9 := Tryz.sizeOf9
  have hS : Tryz.prog.underlying 34 = some (.struct (Tryz.prog.fieldsOf 34)) := by kernel_rfl
  have hp : Tryz.prog.stoodInHeld 34 = false := by kernel_rfl
  rw [show d + 2 = (d + 1) + 1 from rfl, run_equalIn_agg w (d + 1) 34 _ _ hS hp]
  simp only [Program.fieldsOf, Tryz.underlying34]
  go_simp
  by_cases h1 : a.toList = b.toList <;> by_cases h2 : i = j <;> simp [h1, h2]
set_option maxRecDepth 100000 in
theorem eqin_key (d : Nat) (x y : KY) (w : World) : (Op.equalIn (d + 3) 99 (.agg #[.string x.g, .string x.t, .int .i64 x.i]) (.agg #[.string y.g, .string y.t, .int .i64 y.i])).run Tryz.prog w = .ok (x.g.toList == y.g.toList && (x.t.toList == y.t.toList && x.i == y.i)) w := by
  have u9 := Tryz.underlying9
  have a9 := Tryz.isAgg9
  have z9 := Tryz.sizeOf9
  have a36 := Tryz.isAgg34
  have z36 := Tryz.sizeOf34
  have hq := fun w => eqin_part d x.t y.t x.i y.i w
  have hS : Tryz.prog.underlying 99 = some (.struct (Tryz.prog.fieldsOf 99)) := by kernel_rfl
  have hp : Tryz.prog.stoodInHeld 99 = false := by kernel_rfl
  rw [show d + 3 = (d + 2) + 1 from rfl, run_equalIn_agg w (d + 2) 99 _ _ hS hp]
  simp only [Program.fieldsOf, Tryz.underlying99]
  go_simp
  by_cases h1 : x.g.toList = y.g.toList <;> by_cases h2 : x.t.toList = y.t.toList <;> by_cases h3 : x.i = y.i <;> simp [h1, h2, h3]
theorem part_eql (a b : ByteArray) (i j : Int) (w : World) : (binOp .eql 34 (.agg #[.string a, .int .i64 i]) (.agg #[.string b, .int .i64 j])).run Tryz.prog w = .ok (.bool (a.toList == b.toList && i == j)) w := by
  rw [run_eql_struct, show (10000 : Nat) = 9998 + 2 from rfl, eqin_part]; rfl
theorem part_neq (a b : ByteArray) (i j : Int) (w : World) : (binOp .neq 34 (.agg #[.string a, .int .i64 i]) (.agg #[.string b, .int .i64 j])).run Tryz.prog w = .ok (.bool (!(a.toList == b.toList && i == j))) w := by
  rw [run_neq_struct, show (10000 : Nat) = 9998 + 2 from rfl, eqin_part]; rfl
theorem key_neq (x y : KY) (w : World) : (binOp .neq 99 (.agg #[.string x.g, .string x.t, .int .i64 x.i]) (.agg #[.string y.g, .string y.t, .int .i64 y.i])).run Tryz.prog w = .ok (.bool (!(x.g.toList == y.g.toList && (x.t.toList == y.t.toList && x.i == y.i)))) w := by
  rw [run_neq_struct, show (10000 : Nat) = 9997 + 3 from rfl, eqin_key]; rfl
theorem part_guard (op : BinOp) (a b : Operand) (xs ys : Array Value) (w : World) : (eqGuard op 34 a b (.agg xs) (.agg ys)).run Tryz.prog w = .ok () w := run_eqGuard_agg w op 34 a b xs ys (by kernel_rfl)
theorem key_guard (op : BinOp) (a b : Operand) (xs ys : Array Value) (w : World) : (eqGuard op 99 a b (.agg xs) (.agg ys)).run Tryz.prog w = .ok () w := run_eqGuard_agg w op 99 a b xs ys (by kernel_rfl)
end Go.Proofs.YtlokhhjhckiloaaGreat.Of
/- coord: the document's coordinator in memory; Find. No condition but that they are not too many. -/
namespace Go.Proofs.YtlokhhjhckiloaaGreat
open Go.RowKit
set_option linter.unusedVariables false
def nmdC (F : List CE) : List Value := F.flatMap fun e => [.string (nmA e), .pointer (some ⟨e.blk, 0, none⟩)]
theorem nmdC_len (F : List CE) : (nmdC F).length = F.length * 2 := by
  induction F with
  | nil => rfl
  | cons x l ih => show (_ :: _ :: nmdC l).length = _; simp only [List.length_cons, ih]; omega
theorem nmdC_at : ∀ {F : List CE} {j : Nat} {e : CE}, F[j]? = some e → (nmdC F)[j * 2]? = some (.string (nmA e)) ∧ (nmdC F)[j * 2 + 1]? = some (.pointer (some ⟨e.blk, 0, none⟩))
  | [], j, e, h => by cases h
  | x :: l, 0, e, h => by
    have : x = e := by simpa using h
    subst this
    exact ⟨rfl, rfl⟩
  | x :: l, j + 1, e, h => by
    have ih := nmdC_at (F := l) (j := j) (e := e) (by simpa using h)
    show ((_ :: _ :: nmdC l) : List Value)[(j + 1) * 2]? = _ ∧ ((_ :: _ :: nmdC l) : List Value)[(j + 1) * 2 + 1]? = _
    rw [show (j + 1) * 2 = (j * 2) + 1 + 1 by omega, List.getElem?_cons_succ, List.getElem?_cons_succ, List.getElem?_cons_succ, List.getElem?_cons_succ]
    exact ih
/-- The document's coordinator. -/
structure KoIs (w : World) (B q : Nat) (A : Option Addr) (c t : Nat) (ss rb : Int) (F : List CE) : Prop where
  box : Box w q 76 #[.int .i64 ss, .int .i64 rb, .slice A F.length c, .pointer (some ⟨t, 0, none⟩)]
  row : w.ownsRow B 88 2 (.slice A F.length c) F.length (nmdC F)
  base : B ≤ q
section
variable {w w' : World} {B q c t : Nat} {A : Option Addr} {ss rb : Int} {F : List CE}
theorem KoIs.later (h : KoIs w B q A c t ss rb F) (hb : Below w.heap.size w w') : KoIs w' B q A c t ss rb F := ⟨h.box.later hb, own_below h.row hb, h.base⟩
theorem KoIs.keep (h : KoIs w B q A c t ss rb F) (hk : KeepP w w') : KoIs w' B q A c t ss rb F := ⟨hk.box h.box (by decide) (by decide), hk.row h.row (by decide) (by decide), h.base⟩
theorem KoIs.cells (h : KoIs w B q A c t ss rb F) : w.cell? ⟨q, 0, none⟩ = some (.int .i64 ss) ∧ w.cell? ⟨q, 1, none⟩ = some (.int .i64 rb) ∧ w.cell? ⟨q, 2, none⟩ = some (.slice A F.length c) ∧ w.cell? ⟨q, 3, none⟩ = some (.pointer (some ⟨t, 0, none⟩)) ∧ q < w.heap.size :=
  ⟨(h.box.cell 0).trans rfl, (h.box.cell 1).trans rfl, (h.box.cell 2).trans rfl, (h.box.cell 3).trans rfl, h.box.lt⟩
theorem KoIs.at_ (h : KoIs w B q A c t ss rb F) {j : Nat} {e : CE} (hj : F[j]? = some e) : ∃ r, A = some ⟨r, 0, none⟩ ∧ r < w.heap.size ∧ w.cell? ⟨r, j * 2, none⟩ = some (.string (nmA e)) ∧ w.cell? ⟨r, j * 2 + 1, none⟩ = some (.pointer (some ⟨e.blk, 0, none⟩)) := by
  have hl := (List.getElem?_eq_some_iff.1 hj).1
  obtain ⟨r, e1, hr, _, _, hc⟩ := own_in h.row (by omega)
  exact ⟨r, e1, hr, hc _ _ (nmdC_at hj).1, hc _ _ (nmdC_at hj).2⟩
/-- Looking for one under way. -/
structure NoAt (W : World) (F : List CE) (s : List UInt8) (k : Nat) (wr : World) : Prop where
  le : k ≤ F.length
  no : ∀ j e, j < k → F[j]? = some e → e.name ≠ s
  bel : Below W.heap.size W wr
theorem ofN_at {s : List UInt8} {k : Nat} {e : CE} (hno : ∀ j e, j < k → F[j]? = some e → e.name ≠ s) (hk : F[k]? = some e) (he : e.name = s) : ofN F s = some e := by
  induction F generalizing k with
  | nil => cases hk
  | cons x l ih =>
    cases k with
    | zero =>
      have : x = e := by simpa using hk
      subst this
      unfold ofN
      rw [List.find?_cons_of_pos (by simpa using he)]
    | succ k =>
      have hx := hno 0 x (by omega) rfl
      have := ih (k := k) (fun j e hj hje => hno (j + 1) e (by omega) (by simpa using hje)) (by simpa using hk)
      unfold ofN at this ⊢
      rw [List.find?_cons_of_neg (by simpa using hx)]
      exact this
theorem ofN_no {s : List UInt8} (hno : ∀ j e, j < F.length → F[j]? = some e → e.name ≠ s) : ofN F s = none := by
  unfold ofN
  rw [List.find?_eq_none]
  intro e he
  obtain ⟨j, hj, rfl⟩ := List.getElem_of_mem he
  simpa using hno j _ hj (List.getElem?_eq_getElem hj)
set_option maxHeartbeats 4000000 in
set_option maxRecDepth 100000 in
theorem kofind_c (h : KoIs w B q A c t ss rb F) (hF : F.length ≤ 100000) (s : ByteArray) :
    Calls Tryz.prog 25 #[.pointer (some ⟨q, 0, none⟩), .string s] w (Good w (lookV (ofN F s.data.toList))) := by
  have HI := Lib.hid h
  clear h
  go_enter Tryz.func25, Tryz.ntmps25
  go_wp2
  go_loopw [5] (fun j wr => ∃ k : Nat, j = .int .i64 k ∧ NoAt w F s.data.toList k wr) (fun j _ => F.length - (intOf j).toNat)
  case atStart => exact ⟨0, rfl, Nat.zero_le _, fun j y hj => absurd hj (Nat.not_lt_zero _), Below.refl _ _⟩
  case round =>
    obtain ⟨k, rfl, hA⟩ := hrel
    have hle := hA.le
    have hI := HI.out.later hA.bel
    obtain ⟨c0, c1, c2, c3, cl⟩ := hI.cells
    by_cases hk : k < F.length
    · obtain ⟨x, hx⟩ : ∃ x, F[k]? = some x := ⟨_, List.getElem?_eq_getElem hk⟩
      obtain ⟨r, rfl, hrl, q0, q1⟩ := hI.at_ hx
      have HA := Lib.hid hA
      have HX := Lib.hid hx
      have hki : (k : Int) < (F.length : Int) := by omega
      clear hA hx hle hI
      by_cases hm : nmA x = s
      · have hq : ((nmA x).toList == s.toList) = true := by rw [hm]; simp
        have HM : Hid (x.name = s.data.toList) := Lib.hid (by rw [← hm, nmA_list])
        clear hm
        go_wp2_with fail
        go_ret
        exact ⟨by rw [ofN_at HA.out.no HX.out HM.out]; rfl, HA.out.bel⟩
      · have hq : ((nmA x).toList == s.toList) = false := by rw [Of.str_eq]; exact decide_eq_false hm
        have HM : Hid (x.name ≠ s.data.toList) := Lib.hid (fun e => hm (by
          unfold nmA
          rw [e]))
        clear hm
        go_wp2_with fail
        go_roundw
        case rel => exact ⟨k + 1, by go_num, hk, fun j y hj hy => by
          by_cases hjk : j = k
          · subst hjk
            rw [HX.out] at hy
            injection hy with hy
            subst hy
            exact HM.out
          · exact HA.out.no j y (by omega) hy, HA.out.bel⟩
        case measure => simp [intOf]; omega
    · have hkk : k = F.length := by omega
      subst hkk
      have HA := Lib.hid hA
      have hki : ¬ (F.length : Int) < (F.length : Int) := by omega
      clear hA hle hI
      go_wp2_with fail
      go_ret
      exact ⟨by rw [ofN_no HA.out.no]; rfl, HA.out.bel⟩
end
end Go.Proofs.YtlokhhjhckiloaaGreat
