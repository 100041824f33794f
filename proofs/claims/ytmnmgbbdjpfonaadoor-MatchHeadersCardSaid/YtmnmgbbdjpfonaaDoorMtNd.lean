/- match: filters made of filters: what they let through, and how they lie in memory. No condition. -/
import Derived.Test.YtmnmgbbdjpfonaaDoorMtOne
namespace Go.Proofs.YtmnmgbbdjpfonaaDoor
open Go.RowKit
set_option linter.unusedVariables false
def N2 (op : Int) (x y : Tr) : Tr := Tr.mk op ⟨#[]⟩ ⟨#[]⟩ [x, y]
def N1 (x : Tr) : Tr := Tr.mk 3 ⟨#[]⟩ ⟨#[]⟩ [x]
def N0 : Tr := Tr.mk 0 ⟨#[]⟩ ⟨#[]⟩ []
theorem anyK_congr {f g : Tr → Bool} {L : List Tr} (a : Bool) (h : ∀ x ∈ L, f x = g x) : anyK f a L = anyK g a L := by
  unfold anyK
  rw [Bool.eq_iff_iff, List.any_eq_true, List.any_eq_true]
  constructor
  · rintro ⟨x, hx, e⟩; exact ⟨x, hx, by rw [← h x hx]; exact e⟩
  · rintro ⟨x, hx, e⟩; exact ⟨x, hx, by rw [h x hx]; exact e⟩
theorem thruB_congr {f g : Tr → Bool} {r : Rec} {t : Tr} (h : ∀ x ∈ t.kids, f x = g x) : thruB f r t = thruB g r t := by
  unfold thruB
  rw [anyK_congr false h, anyK_congr true h]
theorem lets_more (r : Rec) : ∀ (k m : Nat) (t : Tr), depD k t → k < m → letsG r (m + 1) t = letsG r m t := by
  intro k
  induction k with
  | zero =>
    intro m t h hm
    cases m with
    | zero => omega
    | succ m => exact thruB_congr (fun x hx => by rw [show t.kids = [] from h] at hx; cases hx)
  | succ k ih =>
    intro m t h hm
    cases m with
    | zero => omega
    | succ m => exact thruB_congr (fun x hx => ih m x (h x hx) (by omega))
theorem parts_more : ∀ (k m : Nat) (t : Tr), depD k t → k < m → partsB (m + 1) t = partsB m t := by
  intro k
  induction k with
  | zero =>
    intro m t h hm
    cases m with
    | zero => omega
    | succ m =>
      show (partB t && t.kids.all (partsB (m + 1))) = (partB t && t.kids.all (partsB m))
      rw [show t.kids = [] from h]; rfl
  | succ k ih =>
    intro m t h hm
    cases m with
    | zero => omega
    | succ m =>
      show (partB t && t.kids.all (partsB (m + 1))) = (partB t && t.kids.all (partsB m))
      congr 1
      rw [Bool.eq_iff_iff, List.all_eq_true, List.all_eq_true]
      constructor
      · intro h1 x hx; rw [← ih m x (h x hx) (by omega)]; exact h1 x hx
      · intro h1 x hx; rw [ih m x (h x hx) (by omega)]; exact h1 x hx
theorem parts_le {k m n : Nat} {t : Tr} (h : depD k t) (hm : k < m) (hn : m ≤ n) : partsB n t = partsB m t := by
  induction hn with
  | refl => rfl
  | step hl ih => rw [← ih]; exact parts_more k _ t h (Nat.lt_of_lt_of_le hm hl)
theorem lets_le {r : Rec} {k m n : Nat} {t : Tr} (h : depD k t) (hm : k < m) (hn : m ≤ n) : letsG r n t = letsG r m t := by
  induction hn with
  | refl => rfl
  | step hl ih => rw [← ih]; exact lets_more r k _ t h (Nat.lt_of_lt_of_le hm hl)
/-- A filter that is small. -/
structure OkT (k s : Nat) (t : Tr) : Prop where
  dep : depD k t
  size : szD k t ≤ s
theorem OkT.of {k s : Nat} {t : Tr} (h1 : depthG t ≤ k + 1) (h2 : sizeG t ≤ (s : Int)) (hk : k ≤ 50) (hs : s < 100) : OkT k s t := by
  have hd := depD_small (k := k) h1 (by omega)
  have e : sizeG t = ((min 100 (szD k t) : Nat) : Int) := by rw [sizeG_eq, sizeN_is 99 100 t (depD_le hd (by omega)) (by omega), szD_le hd (by omega)]
  exact ⟨hd, by omega⟩
theorem OkT.le {k s k' s' : Nat} {t : Tr} (h : OkT k s t) (hk : k ≤ k') (hs : s ≤ s') : OkT k' s' t := ⟨depD_le h.dep hk, by rw [szD_le h.dep hk]; exact Nat.le_trans h.size hs⟩
theorem OkT.two {k s s' : Nat} {x y : Tr} (op : Int) (hx : OkT k s x) (hy : OkT k s' y) : OkT (k + 1) (1 + s + s') (N2 op x y) := by
  refine ⟨fun z hz => ?_, ?_⟩
  · have : z = x ∨ z = y := by simpa [N2, Tr.kids] using hz
    rcases this with rfl | rfl
    · exact hx.dep
    · exact hy.dep
  · show 1 + ([x, y].map (szD k)).sum ≤ _
    have h1 := hx.size
    have h2 := hy.size
    simp
    omega
theorem OkT.one {k s : Nat} {x : Tr} (hx : OkT k s x) : OkT (k + 1) (1 + s) (N1 x) := by
  refine ⟨fun z hz => ?_, ?_⟩
  · have : z = x := by simpa [N1, Tr.kids] using hz
    subst this; exact hx.dep
  · show 1 + ([x].map (szD k)).sum ≤ _
    have h1 := hx.size
    simp
    omega
theorem OkT.zero : OkT 0 1 N0 := ⟨rfl, Nat.le_refl _⟩
/-- Whether it may be is whether its parts may be. -/
theorem OkT.check {k s : Nat} {t : Tr} (h : OkT k s t) (hk : k ≤ 50) (hs : s ≤ 30) : checkG t = if partsB 6 t = true then 0 else 1 := by
  have hd := h.dep
  have e : sizeG t = ((min 100 (szD k t) : Nat) : Int) := by rw [sizeG_eq, sizeN_is 99 100 t (depD_le hd (by omega)) (by omega), szD_le hd (by omega)]
  have h2 := h.size
  unfold checkG
  cases hp : partsB 6 t with
  | true => rw [if_neg (by simp; omega)]; rfl
  | false => rw [if_pos (.inr rfl)]; rfl
theorem two_parts {k s s' : Nat} {x y : Tr} {op : Int} (ho : op = 1 ∨ op = 2) (hx : OkT k s x) (hy : OkT k s' y) (hk : k < 5) : partsB 6 (N2 op x y) = (partsB 6 x && partsB 6 y) := by
  rw [parts_le hx.dep (m := 5) hk (by decide), parts_le hy.dep (m := 5) hk (by decide)]
  show (partB (N2 op x y) && [x, y].all (partsB 5)) = _
  have : partB (N2 op x y) = true := by rcases ho with rfl | rfl <;> rfl
  rw [this]
  simp
theorem one_parts {k s : Nat} {x : Tr} (hx : OkT k s x) (hk : k < 5) : partsB 6 (N1 x) = partsB 6 x := by
  rw [parts_le hx.dep (m := 5) hk (by decide)]
  show (partB (N1 x) && [x].all (partsB 5)) = _
  have : partB (N1 x) = true := rfl
  rw [this]
  simp
theorem and_lets {k s s' : Nat} {x y : Tr} (r : Rec) (hx : OkT k s x) (hy : OkT k s' y) (hk : k < 5) : letsG r 6 (N2 1 x y) = (letsG r 6 x && letsG r 6 y) := by
  rw [lets_le hx.dep (m := 5) hk (by decide), lets_le hy.dep (m := 5) hk (by decide)]
  show thruB (letsG r 5) r (N2 1 x y) = _
  unfold thruB N2
  simp [Tr.op, Tr.kids, anyK]
theorem or_lets {k s s' : Nat} {x y : Tr} (r : Rec) (hx : OkT k s x) (hy : OkT k s' y) (hk : k < 5) : letsG r 6 (N2 2 x y) = (letsG r 6 x || letsG r 6 y) := by
  rw [lets_le hx.dep (m := 5) hk (by decide), lets_le hy.dep (m := 5) hk (by decide)]
  show thruB (letsG r 5) r (N2 2 x y) = _
  unfold thruB N2
  simp [Tr.op, Tr.kids, anyK]
theorem not_lets {k s : Nat} {x : Tr} (r : Rec) (hx : OkT k s x) (hk : k < 5) : letsG r 6 (N1 x) = !(letsG r 6 x) := by
  rw [lets_le hx.dep (m := 5) hk (by decide)]
  show thruB (letsG r 5) r (N1 x) = _
  unfold thruB N1
  simp [Tr.op, Tr.kids, anyK]
theorem zero_lets (r : Rec) : letsG r 6 N0 = true := by
  show thruB (letsG r 5) r N0 = _
  unfold thruB N0
  simp [Tr.op]
theorem mk_ok (op : Int) (L : List Tr) (h1 : -9223372036854775808 ≤ op) (h2 : op < 9223372036854775808) (hl : L.length ≤ 1000) : NodeOk (Tr.mk op ⟨#[]⟩ ⟨#[]⟩ L) :=
  ⟨h1, h2, (by decide : (⟨#[]⟩ : ByteArray).size ≤ 1152921504606846976), (by decide : (⟨#[]⟩ : ByteArray).size ≤ 1152921504606846976), (by omega : L.length ≤ 1152921504606846976)⟩
theorem N0_at (w : World) (A : Option Addr) (d : Nat) : TrAt (fun _ => True) w d A N0 := TrAt.le (d := 0) ⟨mk_ok 0 [] (by decide) (by decide) (by decide), rfl⟩ (Nat.zero_le _)
theorem N1_at {w : World} {q : Nat} {x : Tr} {A : Option Addr} {c d : Nat} (hq : Box w q 24 (exC x A c)) (hx : TrAt (fun _ => True) w d A x) : TrAt (fun _ => True) w (d + 1) (some ⟨q, 0, none⟩) (N1 x) := by
  refine ⟨mk_ok 3 [x] (by decide) (by decide) (by simp), fun _ => ⟨q, 0, rfl, trivial, hq.lt, fun j k hj => ?_⟩⟩
  have c := fun i => hq.cell i
  match j, hj with
  | 0, hj => injection hj with hj; subst hj; exact ⟨A, _, c 0, c 1, c 2, c 3, hx⟩
  | j + 1, hj => cases hj
theorem N2_at {w : World} {q : Nat} {x y : Tr} {A B : Option Addr} {c e d : Nat} (op : Int) (ho : op = 1 ∨ op = 2) (hq : Box w q 24 #[.int .i64 x.op, .string x.name, .string x.value, .slice A x.kids.length c, .int .i64 y.op, .string y.name, .string y.value, .slice B y.kids.length e])
    (hx : TrAt (fun _ => True) w d A x) (hy : TrAt (fun _ => True) w d B y) : TrAt (fun _ => True) w (d + 1) (some ⟨q, 0, none⟩) (N2 op x y) := by
  refine ⟨mk_ok op [x, y] (by rcases ho with rfl | rfl <;> decide) (by rcases ho with rfl | rfl <;> decide) (by simp), fun _ => ⟨q, 0, rfl, trivial, hq.lt, fun j k hj => ?_⟩⟩
  have c := fun i => hq.cell i
  match j, hj with
  | 0, hj => injection hj with hj; subst hj; exact ⟨A, _, c 0, c 1, c 2, c 3, hx⟩
  | 1, hj => injection hj with hj; subst hj; exact ⟨B, _, c 4, c 5, c 6, c 7, hy⟩
  | j + 2, hj => cases hj
theorem matchG_ok {t : Tr} {r : Rec} (h : (matchG t r).2 = 0) : checkG t = 0 ∧ recE r = 0 := by
  unfold matchG at h
  split at h
  · assumption
  · cases h
theorem matchG_no {t : Tr} {r : Rec} (h : (matchG t r).2 ≠ 0) : matchG t r = (false, 1) := by
  unfold matchG at h ⊢
  split at h
  · exact absurd rfl h
  · rename_i h2; rw [if_neg h2]
theorem matchG_is {t : Tr} {r : Rec} (h1 : checkG t = 0) (h2 : recE r = 0) : matchG t r = (letsG r 6 t, 0) := by
  unfold matchG; rw [if_pos ⟨h1, h2⟩]
theorem OkT.ok {k s : Nat} {t : Tr} (h : OkT k s t) (hk : k ≤ 50) (hs : s ≤ 30) (hp : partsB 6 t = true) : checkG t = 0 := by rw [h.check hk hs, if_pos hp]
end Go.Proofs.YtmnmgbbdjpfonaaDoor
