/- expr: the program's Size, mayBe, Check by contracts. -/
import Derived.Test.YtmnmgbbdjpfonaaDoorMtWalk
import Derived.Test.YtmnmgbbdjpfonaaDoorExFits
import Derived.Test.YtmnmgbbdjpfonaaDoorExChk
namespace Go.Proofs.YtmnmgbbdjpfonaaDoor
open Go.RowKit
set_option linter.unusedVariables false
def sizeV (s : Int) (_ : Tr) (_ : Int) : Bool × Int := (decide (s + 1 < 100), s + 1)
def mayV (s : Int) (x : Tr) (l : Int) : Bool × Int := (decide (s + 1 ≤ 30) && (decide (l ≤ 6) && partB x), s + 1)
theorem TrAt.apart {q : Nat} {w : World} {d : Nat} {A : Option Addr} {t : Tr} (h : TrAt (fun b => b < q) w d A t) : TrAt (· ≠ q) w d A t := h.mono fun b _ e => Nat.ne_of_lt e
theorem TrAt.lower {ok : Nat → Prop} {w : World} {d : Nat} {A : Option Addr} {t : Tr} (h : TrAt ok w d A t) : TrAt (fun b => b < w.heap.size) w d A t := h.mono fun b hb _ => hb
theorem Off.to_below {q : Nat} {W w : World} (h : Off (· = q) W w) (hq : W.heap.size ≤ q) : Below W.heap.size W w := h.below (Nat.le_refl _) (fun k hk => by subst hk; exact hq)
/-- The cell of a count, just made behind a part's box. -/
structure Counted (W : World) (t : Tr) (A : Option Addr) (c : Nat) (s : Int) (w : World) : Prop where
  box : Box w W.heap.size 24 (exC t A c)
  cell : Box w (W.heap.size + 1) 3 #[.int .i64 s]
  bel : Below W.heap.size W w
theorem Counted.start (W : World) (t : Tr) (A : Option Addr) (c : Nat) (s : Int) : Counted W t A c s ((W.alloc (.cells (exC t A c) 24)).alloc (.cells #[.int .i64 s] 3)) :=
  ⟨(Box.new _ _ _).alloc _, by have h := Box.new (W.alloc (.cells (exC t A c) 24)) 3 #[.int .i64 s]; simpa using h, ((Below.refl _ _).alloc (Nat.le_refl _) _).alloc (by simp) _⟩
theorem Counted.cells {W w : World} {t : Tr} {A : Option Addr} {c : Nat} {s : Int} (h : Counted W t A c s w) :
    w.cell? ⟨W.heap.size, 0, none⟩ = some (.int .i64 t.op) ∧ w.cell? ⟨W.heap.size, 1, none⟩ = some (.string t.name) ∧ w.cell? ⟨W.heap.size, 2, none⟩ = some (.string t.value) ∧ w.cell? ⟨W.heap.size, 3, none⟩ = some (.slice A t.kids.length c) :=
  ⟨h.box.cell 0, h.box.cell 1, h.box.cell 2, h.box.cell 3⟩
theorem Counted.tree {W w : World} {t : Tr} {A : Option Addr} {c : Nat} {s : Int} {ok : Nat → Prop} {d : Nat} (h : Counted W t A c s w) (hT : TrAt ok W d A t) : TrAt (· ≠ W.heap.size + 1) w d A t :=
  (hT.lower.below h.bel).mono fun b _ e => by omega
theorem Counted.later {W w w' : World} {t : Tr} {A : Option Addr} {c : Nat} {s s' : Int} (h : Counted W t A c s w) (hb : Box w' (W.heap.size + 1) 3 #[.int .i64 s']) (ho : Off (· = W.heap.size + 1) w w') : Counted W t A c s' w' :=
  ⟨h.box.off ho (fun e => by have h1 : W.heap.size = W.heap.size + 1 := e; omega), hb, h.bel.trans (ho.below h.bel.size (fun k hk => by omega))⟩
set_option maxHeartbeats 2000000 in
set_option maxRecDepth 100000 in
theorem mayV_c (q : Nat) (s : Int) (x : Tr) (A : Option Addr) (c : Nat) (l : Int) (W : World) (hs : 0 ≤ s ∧ s ≤ 1000) (hN : NodeOk x) (hq : Box W q 3 #[.int .i64 s]) :
    Calls Tryd.prog 39 #[exV x A c, .int .i64 l, .pointer (some ⟨q, 0, none⟩)] W (Walked q W (mayV s x l)) := by
  generalize hR : mayV s x l = R
  unfold mayV at hR
  have hft := fun w => fits_c x A c w hN
  generalize partB x = pb at *
  have h1 := (hq.alloc (.cells (exC x A c) 24))
  have hbx := (Box.new W 24 (exC x A c)).far (p := ⟨q, 0, none⟩) (by have := hq.lt; simp; omega) (.int .i64 (s + 1))
  have h2 := h1.set 0 (.int .i64 (s + 1))
  have f0 := h1.frozen 0
  have ho : Off (· = q) W ((W.alloc (.cells (exC x A c) 24)).setCell ⟨q, 0, none⟩ (.int .i64 (s + 1))) := Off.set ((Off.refl (· = q) W).alloc (.cells (exC x A c) 24)) (p := ⟨q, 0, none⟩) (.inl rfl) _
  have q0 := h1.cell 0
  have q1 := h2.cell 0
  obtain ⟨d0, d1, d2, d3⟩ := (⟨hbx.cell 0, hbx.cell 1, hbx.cell 2, hbx.cell 3⟩ : _ ∧ _ ∧ _ ∧ _)
  have HB := Lib.hid (show Box _ q 3 #[.int .i64 (s + 1)] from h2)
  have HO := Lib.hid ho
  clear h1 h2 ho hq hbx
  obtain ⟨hs1, hs2⟩ := hs
  unfold exV exC at *
  by_cases h30 : s + 1 ≤ 30
  · by_cases h6 : l ≤ 6
    · have HR : Hid (R = (pb, s + 1)) := Lib.hid (by rw [← hR]; simp [h30, h6])
      clear hR
      go_enter Tryd.func39, Tryd.ntmps39
      go_wp2_with fail
      with_reducible refine (hft _).mono ?_
      rintro en w1 ⟨rfl, hb1⟩
      have HB1 := Lib.hid (HB.out.later hb1)
      have HO1 := Lib.hid (HO.out.later hb1)
      clear hb1 hft
      go_wp2_with fail
      go_ret
      rw [HR.out]
      exact ⟨rfl, HB1.out, HO1.out⟩
    · have HR : Hid (R = (false, s + 1)) := Lib.hid (by rw [← hR]; simp [h30, h6])
      clear hR
      go_enter Tryd.func39, Tryd.ntmps39
      go_wp2_with fail
      go_ret
      rw [HR.out]
      exact ⟨rfl, HB.out, HO.out⟩
  · have HR : Hid (R = (false, s + 1)) := Lib.hid (by rw [← hR]; simp [h30])
    clear hR
    go_enter Tryd.func39, Tryd.ntmps39
    go_wp2_with fail
    go_ret
    rw [HR.out]
    exact ⟨rfl, HB.out, HO.out⟩
set_option maxHeartbeats 1000000 in
set_option maxRecDepth 100000 in
theorem mayBe_c (ok : Nat → Prop) (d : Nat) (t : Tr) (A : Option Addr) (c : Nat) (W : World) (hd : d ≤ 100000) (hT : TrAt ok W d A t) :
    Calls Tryd.prog 29 #[exV t A c] W (Good W (.bool (walkG mayV d 0 t 1).1)) := by
  have hw := walkM_c (W.heap.size + 1) mayV (fun s => 0 ≤ s ∧ s ≤ 1000) (fun s x l hs h => by unfold mayV at h ⊢; simp only [Bool.and_eq_true, decide_eq_true_eq] at h ⊢; omega)
    (fun s x A c l w _ _ hs hN hq => mayV_c _ s x A c l w hs hN hq) d 0 t A c 1
  have HC := Lib.hid (Counted.start W t A c 0)
  have hww := fun w (h : Counted W t A c 0 w) => hw w (by omega) (by omega) ⟨by omega, by omega⟩ (h.tree hT) h.cell
  clear hw hT
  generalize walkG mayV d 0 t 1 = r at *
  obtain ⟨r1, r2⟩ := r
  obtain ⟨c0, c1, c2, c3⟩ := HC.out.cells
  unfold exV exC at *
  go_enter Tryd.func29, Tryd.ntmps29
  go_wp2_with fail
  with_reducible refine (hww _ HC.out).mono ?_
  rintro en w1 ⟨rfl, hb1, ho1⟩
  have HC1 := Lib.hid (HC.out.later hb1 ho1)
  clear hb1 ho1 c0 c1 c2 c3 hww HC
  go_wp2_with fail
  go_ret
  exact ⟨rfl, HC1.out.bel⟩
set_option maxHeartbeats 1000000 in
set_option maxRecDepth 100000 in
theorem check_c (ok : Nat → Prop) (d : Nat) (t : Tr) (A : Option Addr) (c : Nat) (W : World) (hd : d ≤ 100000) (hT : TrAt ok W d A t) :
    Calls Tryd.prog 20 #[exV t A c] W (Good W (.int .i64 (if (walkG mayV d 0 t 1).1 then 0 else 1))) := by
  have hm := fun w h => mayBe_c ok d t A c w hd h
  have HT := Lib.hid hT
  clear hT
  have HB := Lib.hid (Boxed.start W t A c)
  generalize (walkG mayV d 0 t 1).1 = r at *
  obtain ⟨c0, c1, c2, c3⟩ := HB.out.cells
  unfold exV exC at *
  cases r with
  | true =>
    go_enter Tryd.func20, Tryd.ntmps20
    go_wp2_with fail
    with_reducible refine (hm _ (HT.out.below HB.out.bel)).mono ?_
    rintro en w1 ⟨rfl, hb1⟩
    have HB1 := Lib.hid (HB.out.later hb1)
    clear hb1 c0 c1 c2 c3 hm
    go_wp2_with fail
    go_ret
    exact ⟨rfl, HB1.out.bel⟩
  | false =>
    go_enter Tryd.func20, Tryd.ntmps20
    go_wp2_with fail
    with_reducible refine (hm _ (HT.out.below HB.out.bel)).mono ?_
    rintro en w1 ⟨rfl, hb1⟩
    have HB1 := Lib.hid (HB.out.later hb1)
    clear hb1 c0 c1 c2 c3 hm
    go_wp2_with fail
    go_ret
    exact ⟨rfl, HB1.out.bel⟩
end Go.Proofs.YtmnmgbbdjpfonaaDoor
