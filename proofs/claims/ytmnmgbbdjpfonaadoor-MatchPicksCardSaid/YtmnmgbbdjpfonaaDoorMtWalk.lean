/- expr: the program's walk, over any visit that counts in a cell of its own. -/
import Derived.Test.YtmnmgbbdjpfonaaDoorExPart
namespace Go.Proofs.YtmnmgbbdjpfonaaDoor
open Go.RowKit
set_option linter.unusedVariables false
/-- The kids one behind the other, till one says no. -/
def kidsG (f : Int → Tr → Bool × Int) (L : List Tr) (s : Int) : Bool × Int := L.foldl (fun a k => if a.1 then f a.2 k else a) (true, s)
def walkG (v : Int → Tr → Int → Bool × Int) : Nat → Int → Tr → Int → Bool × Int
  | 0, s, t, l => v s t l
  | d + 1, s, t, l => if (v s t l).1 then kidsG (fun s k => walkG v d s k (l + 1)) t.kids (v s t l).2 else (false, (v s t l).2)
theorem kidsG_snoc (f : Int → Tr → Bool × Int) (L : List Tr) (s : Int) (k : Nat) (hk : k < L.length) (u : Int) (h : kidsG f (L.take k) s = (true, u)) : kidsG f (L.take (k + 1)) s = f u L[k] := by
  unfold kidsG at *
  rw [List.take_add_one, List.getElem?_eq_getElem hk, Option.toList_some, List.foldl_append, h]
  simp
theorem kidsG_stop (f : Int → Tr → Bool × Int) (L : List Tr) (a : Bool × Int) (h : a.1 = false) : L.foldl (fun a k => if a.1 then f a.2 k else a) a = a := by
  induction L with
  | nil => rfl
  | cons x L ih => rw [List.foldl_cons, h]; simpa using ih
theorem kidsG_no (f : Int → Tr → Bool × Int) (L : List Tr) (s : Int) (k : Nat) (hk : k < L.length) (u : Int) (h : kidsG f (L.take k) s = (true, u)) (hf : (f u L[k]).1 = false) : kidsG f L s = f u L[k] := by
  have h1 := kidsG_snoc f L s k hk u h
  have h2 : kidsG f L s = (L.drop (k + 1)).foldl (fun a k => if a.1 then f a.2 k else a) (kidsG f (L.take (k + 1)) s) := by
    unfold kidsG
    rw [← List.foldl_append, List.take_append_drop]
  rw [h2, h1, kidsG_stop _ _ _ hf]
def Walked (q : Nat) (W : World) (r : Bool × Int) (e : Ending) (w' : World) : Prop := e = .returned (.bool r.1) ∧ Box w' q 3 #[.int .i64 r.2] ∧ Off (· = q) W w'
structure WalkAt (q : Nat) (W : World) (t : Tr) (A : Option Addr) (c : Nat) (s : Int) (w : World) : Prop where
  box : Box w W.heap.size 24 (exC t A c)
  cell : Box w q 3 #[.int .i64 s]
  off : Off (· = q) W w
theorem WalkAt.start {q : Nat} {W : World} {s : Int} (t : Tr) (A : Option Addr) (c : Nat) (h : Box W q 3 #[.int .i64 s]) : WalkAt q W t A c s (W.alloc (.cells (exC t A c) 24)) :=
  ⟨Box.new _ _ _, h.alloc _, (Off.refl _ _).alloc _⟩
theorem WalkAt.cells {q : Nat} {W w : World} {t : Tr} {A : Option Addr} {c : Nat} {s : Int} (h : WalkAt q W t A c s w) :
    w.cell? ⟨W.heap.size, 0, none⟩ = some (.int .i64 t.op) ∧ w.cell? ⟨W.heap.size, 1, none⟩ = some (.string t.name) ∧ w.cell? ⟨W.heap.size, 2, none⟩ = some (.string t.value) ∧ w.cell? ⟨W.heap.size, 3, none⟩ = some (.slice A t.kids.length c) :=
  ⟨h.box.cell 0, h.box.cell 1, h.box.cell 2, h.box.cell 3⟩
theorem WalkAt.step {q : Nat} {W w w' : World} {t : Tr} {A : Option Addr} {c : Nat} {s s' : Int} (h : WalkAt q W t A c s w) (hq : q < W.heap.size) (hc : Box w' q 3 #[.int .i64 s']) (ho : Off (· = q) w w') : WalkAt q W t A c s' w' :=
  ⟨h.box.off ho (fun e => by have h1 : W.heap.size = q := e; omega), hc, h.off.trans ho (fun _ _ x => x)⟩
theorem WalkAt.alloc {q : Nat} {W w : World} {t : Tr} {A : Option Addr} {c : Nat} {s : Int} (h : WalkAt q W t A c s w) (o : Obj) : WalkAt q W t A c s (w.alloc o) :=
  ⟨h.box.alloc _, h.cell.alloc _, h.off.alloc _⟩
theorem TrAt.off_q {q : Nat} {w w' : World} {d : Nat} {A : Option Addr} {t : Tr} (h : TrAt (· ≠ q) w d A t) (ho : Off (· = q) w w') : TrAt (· ≠ q) w' d A t :=
  h.off ho.size fun b hb hne => ho.block b hb hne
theorem walkG_zero (v : Int → Tr → Int → Bool × Int) (s : Int) (t : Tr) (l : Int) (f : Int → Tr → Bool × Int) (h : t.kids = []) : walkG v 0 s t l = if (v s t l).1 then kidsG f t.kids (v s t l).2 else (false, (v s t l).2) := by
  rw [h]
  unfold walkG kidsG
  rcases hr : v s t l with ⟨a, b⟩
  cases a <;> rfl
theorem kidsG_Q (f : Int → Tr → Bool × Int) (Q : Int → Prop) (h : ∀ s x, Q s → (f s x).1 = true → Q (f s x).2) (L : List Tr) (a : Bool × Int) (ha : a.1 = true → Q a.2) (hr : (L.foldl (fun a k => if a.1 then f a.2 k else a) a).1 = true) : Q (L.foldl (fun a k => if a.1 then f a.2 k else a) a).2 := by
  induction L generalizing a with
  | nil => exact ha hr
  | cons x L ih =>
    rw [List.foldl_cons] at hr ⊢
    refine ih _ (fun e => ?_) hr
    by_cases h1 : a.1 = true
    · rw [if_pos h1] at e ⊢
      exact h _ _ (ha h1) e
    · rw [if_neg h1] at e
      exact absurd e h1
theorem walkG_Q (v : Int → Tr → Int → Bool × Int) (Q : Int → Prop) (hQ : ∀ s x l, Q s → (v s x l).1 = true → Q (v s x l).2) : ∀ (d : Nat) (s : Int) (t : Tr) (l : Int), Q s → (walkG v d s t l).1 = true → Q (walkG v d s t l).2 := by
  intro d
  induction d with
  | zero => exact hQ
  | succ d ih =>
    intro s t l hs hr
    unfold walkG at hr ⊢
    by_cases h1 : (v s t l).1 = true
    · rw [if_pos h1] at hr ⊢
      exact kidsG_Q _ Q (fun s x a b => ih s x (l + 1) a b) t.kids (true, (v s t l).2) (fun _ => hQ s t l hs h1) hr
    · rw [if_neg h1] at hr
      cases hr
set_option maxHeartbeats 2000000 in
set_option maxRecDepth 100000 in
theorem walkM_in (q d : Nat) (v : Int → Tr → Int → Bool × Int) (f : Int → Tr → Bool × Int) (Q : Int → Prop) (l : Int) (hl : 0 ≤ l ∧ l < 1000000000)
    (hv : ∀ s x A c w, Q s → NodeOk x → Box w q 3 #[.int .i64 s] → Calls Tryd.prog 39 #[exV x A c, .int .i64 l, .pointer (some ⟨q, 0, none⟩)] w (Walked q w (v s x l)))
    (hQ : ∀ s x, Q s → (v s x l).1 = true → Q (v s x l).2) (hQf : ∀ s x, Q s → (f s x).1 = true → Q (f s x).2)
    (ih : ∀ d', d = d' + 1 → ∀ s x A c w, Q s → TrAt (· ≠ q) w d' A x → Box w q 3 #[.int .i64 s] → Calls Tryd.prog 38 #[exV x A c, .int .i64 (l + 1), .func (.func 39) #[] #[.pointer (some ⟨q, 0, none⟩)]] w (Walked q w (f s x)))
    (s : Int) (t : Tr) (A : Option Addr) (c : Nat) (W : World) (hs : Q s) (hT : TrAt (· ≠ q) W d A t) (hq : Box W q 3 #[.int .i64 s]) :
    Calls Tryd.prog 38 #[exV t A c, .int .i64 l, .func (.func 39) #[] #[.pointer (some ⟨q, 0, none⟩)]] W (Walked q W (if (v s t l).1 then kidsG f t.kids (v s t l).2 else (false, (v s t l).2))) := by
  have hql := hq.lt
  have hkl := hT.node.kids
  generalize hR : (if (v s t l).1 then kidsG f t.kids (v s t l).2 else (false, (v s t l).2)) = R
  have HR := Lib.hid hR.symm
  clear hR
  have HT := Lib.hid hT
  have HN := Lib.hid hT.node
  have HB := Lib.hid (WalkAt.start t A c hq)
  have hvv := fun w h => hv s t A c w hs HN.out h
  have hQ1 := hQ s t hs
  generalize v s t l = r at *
  obtain ⟨r1, r2⟩ := r
  clear hv hQ hs hq
  obtain ⟨c0, c1, c2, c3⟩ := HB.out.cells
  have hc : ∀ s w, WalkAt q W t A c s w → _ := fun s w h => h.cells
  unfold exV exC at *
  go_enter Tryd.func38, Tryd.ntmps38
  go_wp2_with fail
  with_reducible refine (hvv _ HB.out.cell).mono ?_
  rintro en w1 ⟨rfl, hb1, ho1⟩
  have HB1 := Lib.hid (HB.out.step hql hb1 ho1)
  clear hb1 ho1 c0 c1 c2 c3 HB hvv
  cases r1 with
  | false =>
    have hw := HB1.out
    clear HB1
    go_wp2_with fail
    go_ret
    rw [HR.out]
    exact ⟨rfl, hw.cell, hw.off⟩
  | true =>
    have hQ2 := Lib.hid (hQ1 rfl)
    clear hQ1
    obtain ⟨c0, c1, c2, c3⟩ := hc _ _ HB1.out
    go_wp2_with fail
    go_loopw [8, 17] (fun x i wr => ∃ (k : Nat) (u : Int), i = .int .i64 k ∧ k ≤ t.kids.length ∧ kidsG f (t.kids.take k) r2 = (true, u) ∧ Q u ∧ WalkAt q W t A c u wr) (fun _ i _ => t.kids.length - (intOf i).toNat)
    case atStart => exact ⟨0, r2, rfl, Nat.zero_le _, rfl, hQ2.out, HB1.out⟩
    case round =>
      obtain ⟨k, u, rfl, hkl, hall, hQu, hB⟩ := hrel
      have HA := Lib.hid hall
      have HQ := Lib.hid hQu
      have HB2 := Lib.hid hB
      clear hB HB1 hall hQu c0 c1 c2 c3
      by_cases hk : k < t.kids.length
      · obtain ⟨b, off, A', c', d', hd', rfl, ho, hlt', q0, q1, q2, q3, hkid⟩ := (HT.out.off_q HB2.out.off).at_ hk
        have hkc := fun w (ho : Off (· = q) wr w) hx => ih d' hd' u t.kids[k] A' c' w HQ.out (hkid.off_q ho) hx
        have HS := Lib.hid (kidsG_snoc f t.kids r2 k hk u HA.out)
        have HF := Lib.hid (kidsG_no f t.kids r2 k hk u HA.out)
        have HG := Lib.hid (hQf u t.kids[k] HQ.out)
        generalize f u t.kids[k] = r at *
        obtain ⟨r3, r4⟩ := r
        have HV := Lib.hid ((HB2.out.alloc (.cells #[.int .i64 (t.kids[k]).op, .string (t.kids[k]).name, .string (t.kids[k]).value, .slice A' (t.kids[k]).kids.length c'] 24)))
        have HX := Lib.hid (Box.new wr 24 #[.int .i64 (t.kids[k]).op, .string (t.kids[k]).name, .string (t.kids[k]).value, .slice A' (t.kids[k]).kids.length c'])
        go_wp2_with fail
        with_reducible refine (hkc _ ((Off.refl _ _).alloc _) HV.out.cell).mono ?_
        rintro en w2 ⟨rfl, hb2, ho2⟩
        have HB3 := Lib.hid (HV.out.step hql hb2 ho2)
        clear hb2 ho2 q0 q1 q2 q3 HB2 hkc HV HX
        cases r3 with
        | false =>
          have HF2 := Lib.hid (HF.out rfl)
          have hw := HB3.out
          clear HF HS HG HB3
          go_wp2_with fail
          go_ret
          rw [HR.out, if_pos trivial, HF2.out]
          exact ⟨rfl, hw.cell, hw.off⟩
        | true =>
          have HG2 := Lib.hid (HG.out rfl)
          clear HF HG
          go_wp2_with fail
          go_roundw
          case rel => exact ⟨k + 1, r4, rfl, hk, HS.out, HG2.out, HB3.out⟩
          case measure => simp [intOf]; omega
      · have hw := HB2.out
        have hkk : t.kids.take k = t.kids := List.take_of_length_le (by omega)
        have HA2 : Hid (kidsG f t.kids r2 = (true, u)) := Lib.hid (by rw [← hkk]; exact HA.out)
        clear HB2
        go_wp2_with fail
        go_ret
        rw [HR.out, if_pos trivial, HA2.out]
        exact ⟨rfl, hw.cell, hw.off⟩
/-- The whole walk. -/
theorem walkM_c (q : Nat) (v : Int → Tr → Int → Bool × Int) (Q : Int → Prop) (hQ : ∀ s x l, Q s → (v s x l).1 = true → Q (v s x l).2)
    (hv : ∀ s x A c l w, 0 ≤ l → l < 1000000000 → Q s → NodeOk x → Box w q 3 #[.int .i64 s] → Calls Tryd.prog 39 #[exV x A c, .int .i64 l, .pointer (some ⟨q, 0, none⟩)] w (Walked q w (v s x l))) :
    ∀ (d : Nat) (s : Int) (t : Tr) (A : Option Addr) (c : Nat) (l : Int) (W : World), 0 ≤ l → l + d < 1000000000 → Q s → TrAt (· ≠ q) W d A t → Box W q 3 #[.int .i64 s] →
      Calls Tryd.prog 38 #[exV t A c, .int .i64 l, .func (.func 39) #[] #[.pointer (some ⟨q, 0, none⟩)]] W (Walked q W (walkG v d s t l)) := by
  intro d
  induction d with
  | zero =>
    intro s t A c l W h0 hl hs hT hq
    have h := walkM_in q 0 v (fun s x => v s x (l + 1)) Q l ⟨h0, by omega⟩ (fun s x A c w a b e => hv s x A c l w h0 (by omega) a b e) (fun s x a b => hQ s x l a b) (fun s x a b => hQ s x (l + 1) a b) (fun d' e => absurd e (by omega)) s t A c W hs hT hq
    rw [walkG_zero v s t l _ (List.eq_nil_of_length_eq_zero hT.2)]
    exact h
  | succ d ih =>
    intro s t A c l W h0 hl hs hT hq
    exact walkM_in q (d + 1) v (fun s k => walkG v d s k (l + 1)) Q l ⟨h0, by omega⟩ (fun s x A c w a b e => hv s x A c l w h0 (by omega) a b e) (fun s x a b => hQ s x l a b) (fun s x a b => walkG_Q v Q hQ d s x (l + 1) a b) (fun d' e s x A c w a b g => by
      cases e
      exact ih s x A c (l + 1) w (by omega) (by omega) a b g) s t A c W hs hT hq
end Go.Proofs.YtmnmgbbdjpfonaaDoor
