/- index: what only reads: rises, due, the tests of Find and Seek. No condition. -/
import Derived.Test.YtljgiabaekddlaaIxRep
namespace Go.Proofs.Ytljgiabaekddlaa
open Go.RowKit
set_option linter.unusedVariables false
def risesB (x : Ix) (o p : Int) : Bool := decide (x.L.length = 0) || (decide (x.lo < o) && decide (x.lp < p))
set_option maxHeartbeats 4000000 in
set_option maxRecDepth 100000 in
theorem rises_c (x : Ix) (A : Option Addr) (c base b : Nat) (o p : Int) (W : World) (h : IxIs W base b x A c) :
    Calls Try.prog 18 #[.pointer (some ⟨b, 0, none⟩), .int .i64 o, .int .i64 p] W (fun e w' => e = .returned (.bool (risesB x o p)) ∧ w' = W) := by
  obtain ⟨c0, c1, c2, c3, f0, f1, f2, f3⟩ := h.cells
  have cs := fun w => split_c x.lo x.lp w h.okl.1 h.okl.2
  unfold risesB
  obtain ⟨every, L, lo, lp, lt⟩ := x
  simp only at *
  clear h
  generalize fl lo = zo at *
  generalize fl lp = zp at *
  by_cases h0 : L.length = 0
  · have h0' : ((L.length : Int) == 0) = true := by rw [beq_iff_eq]; omega
    have HL := Lib.hid h0
    rw [h0] at c1
    clear h0 h0'
    go_enter Try.func18, Try.ntmps18
    go_wp2
    go_ret
    refine ⟨?_, rfl⟩
    rw [HL.out]
    rfl
  · have h0' : ((L.length : Int) == 0) = false := by rw [beq_eq_false_iff_ne]; omega
    have HL := Lib.hid h0
    by_cases h1 : lo < o
    · have H1 := Lib.hid (decide_eq_true h1)
      go_enter Try.func18, Try.ntmps18
      go_wp2_with fail
      (with_reducible refine (cs _).mono ?_)
      rintro e w1 ⟨rfl, rfl⟩
      go_wp2_with fail
      go_ret
      refine ⟨?_, rfl⟩
      rw [decide_eq_false HL.out, H1.out]
      simp
    · have h1' : decide (lo < o) = false := decide_eq_false h1
      have H1 := Lib.hid h1'
      go_enter Try.func18, Try.ntmps18
      go_wp2_with fail
      (with_reducible refine (cs _).mono ?_)
      rintro e w1 ⟨rfl, rfl⟩
      go_wp2_with fail
      go_ret
      refine ⟨?_, rfl⟩
      rw [decide_eq_false HL.out, H1.out]
      simp
/-- The place of the last entry. -/
def lastP (L : List En) : Int := (L.getLast?.getD (0, 0, 0)).2.1
def dueB (x : Ix) (p : Int) : Bool := decide (x.L.length = 0) || decide (x.every ≤ p - lastP x.L)
theorem last_at {L : List En} (h : L.length ≠ 0) : ∃ e, L[L.length - 1]? = some e ∧ lastP L = e.2.1 ∧ e ∈ L := by
  have hl : L.length - 1 < L.length := by omega
  refine ⟨L[L.length - 1], List.getElem?_eq_getElem hl, ?_, List.getElem_mem hl⟩
  unfold lastP
  rw [List.getLast?_eq_getElem?, List.getElem?_eq_getElem hl]
  rfl
theorem field_1 (o q t : Int) (w : World) : (Instr.field 39 (.agg #[.int .i64 o, .int .i64 q, .int .i64 t]) 1).run Try.prog w = .ok (.int .i64 q) w := by kernel_rfl
/-- What stays while entries are told. -/
def DueS (W : World) (b g j : Nat) (ev : Int) (z1 z2 : Nat) (t : Int) (A : Option Addr) (n c : Nat) (w : World) : Prop :=
  w.cell? ⟨b, 0, none⟩ = some (.int .i64 ev) ∧ w.cell? ⟨b, 1, none⟩ = some (.slice A n c) ∧ w.cell? ⟨g, j * 2, none⟩ = some (.complex .f64 z1 z2) ∧ w.cell? ⟨g, j * 2 + 1, none⟩ = some (.int .i64 t) ∧ b < w.heap.size ∧ g < w.heap.size ∧ Below W.heap.size W w
theorem DueS.later {W w w' : World} {b g j : Nat} {ev : Int} {z1 z2 : Nat} {t : Int} {A : Option Addr} {n c : Nat} (h : DueS W b g j ev z1 z2 t A n c w) (hb : Below w.heap.size w w') : DueS W b g j ev z1 z2 t A n c w' := by
  obtain ⟨h1, h2, h3, h4, h5, h6, h7⟩ := h
  exact ⟨(hb.cell (p := ⟨b, 0, none⟩) h5).trans h1, (hb.cell (p := ⟨b, 1, none⟩) h5).trans h2, (hb.cell (p := ⟨g, j * 2, none⟩) h6).trans h3, (hb.cell (p := ⟨g, j * 2 + 1, none⟩) h6).trans h4, Nat.lt_of_lt_of_le h5 hb.size, Nat.lt_of_lt_of_le h6 hb.size, h7.trans (hb.mono h7.size)⟩
theorem DueS.bel {W w : World} {b g j : Nat} {ev : Int} {z1 z2 : Nat} {t : Int} {A : Option Addr} {n c : Nat} (h : DueS W b g j ev z1 z2 t A n c w) : Below W.heap.size W w := h.2.2.2.2.2.2
set_option maxHeartbeats 4000000 in
set_option maxRecDepth 100000 in
theorem due_c (x : Ix) (A : Option Addr) (c base b : Nat) (p : Int) (W : World) (h : IxIs W base b x A c) (hp : ixo p = true) (hn : x.L.length ≤ 1000000) :
    Calls Try.prog 20 #[.pointer (some ⟨b, 0, none⟩), .int .i64 p] W (Good W (.bool (dueB x p))) := by
  obtain ⟨c0, c1, c2, c3, f0, f1, f2, f3⟩ := h.cells
  unfold dueB
  by_cases h0 : x.L.length = 0
  · have h0' : decide ((x.L.length : Int) = 0) = true := decide_eq_true (by omega)
    have HL := Lib.hid h0
    rw [h0] at c1
    clear h0 h0' h
    go_enter Try.func20, Try.ntmps20
    go_wp2_with fail
    go_quiet (fail)
    go_wp2
    go_ret
    refine ⟨?_, ⟨rfl, rfl, rfl, Nat.le_refl _, fun _ _ => rfl⟩⟩
    rw [decide_eq_true HL.out]
    rfl
  · obtain ⟨e, he, hle, hem⟩ := last_at h0
    obtain ⟨g, rfl, q0, q1, hg, hcap⟩ := h.entry he
    have hoke := h.oks e hem
    obtain ⟨o, q, t⟩ := e
    have hp2 := ixo_of hp
    have hq2 := ixo_of hoke.2
    simp only at hle hp2 hq2 q0 q1
    rw [hle, decide_eq_false h0, Bool.false_or]
    have cs := fun w => told_c o q t w hoke.1 hoke.2
    have hS : DueS W b g (x.L.length - 1) x.every (fl o) (fl q) t (some ⟨g, 0, none⟩) x.L.length c W := ⟨c0, c1, q0, q1, h.box.lt, hg, Below.refl _ _⟩
    obtain ⟨every, L, lo, lp, lt⟩ := x
    simp only at *
    clear h hle hem he hoke
    generalize fl o = zo at *
    generalize fl q = zq at *
    have h0' : ((L.length : Int) == 0) = false := by rw [beq_eq_false_iff_ne]; omega
    have h0d : decide ((L.length : Int) = 0) = false := decide_eq_false (by omega)
    have h0e : decide (L.length = 0) = false := decide_eq_false h0
    have n1 : (L.length : Int) - 1 = ((L.length - 1 : Nat) : Int) := by omega
    generalize hj : L.length - 1 = j at *
    have hjl : j < L.length := by omega
    have j0 : (0 : Int) ≤ (j : Int) := by omega
    have j1 : (j : Int) < (L.length : Int) := by omega
    have g1 : IntKind.i64.wrap ((L.length : Int) - 1) = (j : Int) := by rw [IntWalk.i64_in _ (by omega)]; exact n1
    have g3 : IntKind.i64.wrap (j : Int) = (j : Int) := IntWalk.i64_in _ (by omega)
    clear hj
    have g2 : IntKind.i64.wrap (p - q) = p - q := IntWalk.i64_in _ (by omega)
    go_enter Try.func20, Try.ntmps20
    go_wp2_with fail
    unfold DueS at hS
    have hfd := field_1 o q t
    go_region_held3 (fun w => w.cell? ⟨b, 0, none⟩ = some (.int .i64 every) ∧ w.cell? ⟨b, 1, none⟩ = some (.slice (some ⟨g, 0, none⟩) L.length c) ∧ w.cell? ⟨g, j * 2, none⟩ = some (.complex .f64 zo zq) ∧ w.cell? ⟨g, j * 2 + 1, none⟩ = some (.int .i64 t) ∧ b < w.heap.size ∧ g < w.heap.size ∧ Below W.heap.size W w)
      (first | exact DueS.later hS ((Below.refl _ _).drew) | exact DueS.later (W := W) (b := b) (g := g) (j := j) (by assumption) (by assumption))
      (first | ((with_reducible refine (cs _).mono ?_); rintro e w1 ⟨rfl, hb1⟩))
    all_goals
      go_wp2
      go_ret
      exact ⟨rfl, DueS.bel (W := W) (b := b) (g := g) (j := j) (ev := every) (z1 := zo) (z2 := zq) (t := t) (A := some ⟨g, 0, none⟩) (n := L.length) (c := c) (by assumption)⟩
theorem find1_c (o p t off : Int) (P : Nat) (W : World) (hP : W.cell? ⟨P, 0, none⟩ = some (.int .i64 off)) (hl : P < W.heap.size) :
    Calls Try.prog 23 #[.agg #[.int .i64 o, .int .i64 p, .int .i64 t], .pointer (some ⟨P, 0, none⟩)] W (Good W (.bool (decide (off < o)))) := by
  have hP2 : (W.alloc (.cells #[.int .i64 o, .int .i64 p, .int .i64 t] 39)).cell? ⟨P, 0, none⟩ = some (.int .i64 off) := (((Below.refl _ W).alloc (Nat.le_refl _) _).cell (p := ⟨P, 0, none⟩) hl).trans hP
  clear hP
  go_enter Try.func23, Try.ntmps23
  go_wp2
  go_ret
  exact ⟨rfl, (Below.refl _ W).alloc (Nat.le_refl _) _⟩
theorem seek1_c (o p t off : Int) (P : Nat) (W : World) (hP : W.cell? ⟨P, 0, none⟩ = some (.int .i64 off)) (hl : P < W.heap.size) :
    Calls Try.prog 24 #[.agg #[.int .i64 o, .int .i64 p, .int .i64 t], .pointer (some ⟨P, 0, none⟩)] W (Good W (.bool (decide (off ≤ t)))) := by
  have hP2 : (W.alloc (.cells #[.int .i64 o, .int .i64 p, .int .i64 t] 39)).cell? ⟨P, 0, none⟩ = some (.int .i64 off) := (((Below.refl _ W).alloc (Nat.le_refl _) _).cell (p := ⟨P, 0, none⟩) hl).trans hP
  clear hP
  go_enter Try.func24, Try.ntmps24
  go_wp2
  go_ret
  exact ⟨rfl, (Below.refl _ W).alloc (Nat.le_refl _) _⟩
/-- What the test of an entry reads. -/
def AhS (W : World) (P P1 P2 b g i : Nat) (off : Int) (F : Value) (z1 z2 : Nat) (t : Int) (A : Option Addr) (n c : Nat) (w : World) : Prop :=
  w.cell? ⟨P1, 0, none⟩ = some F ∧ w.cell? ⟨P2, 0, none⟩ = some (.pointer (some ⟨b, 0, none⟩)) ∧ w.cell? ⟨b, 1, none⟩ = some (.slice A n c) ∧ w.cell? ⟨g, i * 2, none⟩ = some (.complex .f64 z1 z2) ∧ w.cell? ⟨g, i * 2 + 1, none⟩ = some (.int .i64 t) ∧ w.cell? ⟨P, 0, none⟩ = some (.int .i64 off) ∧
    P < w.heap.size ∧ P1 < w.heap.size ∧ P2 < w.heap.size ∧ b < w.heap.size ∧ g < w.heap.size ∧ Below W.heap.size W w
section
variable {W w w' : World} {P P1 P2 b g i : Nat} {off : Int} {F : Value} {z1 z2 : Nat} {t : Int} {A : Option Addr} {n c : Nat}
theorem AhS.later (h : AhS W P P1 P2 b g i off F z1 z2 t A n c w) (hb : Below w.heap.size w w') : AhS W P P1 P2 b g i off F z1 z2 t A n c w' := by
  obtain ⟨h1, h2, h3, h4, h5, h6, k1, k2, k3, k4, k5, h7⟩ := h
  exact ⟨(hb.cell (p := ⟨P1, 0, none⟩) k2).trans h1, (hb.cell (p := ⟨P2, 0, none⟩) k3).trans h2, (hb.cell (p := ⟨b, 1, none⟩) k4).trans h3, (hb.cell (p := ⟨g, i * 2, none⟩) k5).trans h4, (hb.cell (p := ⟨g, i * 2 + 1, none⟩) k5).trans h5, (hb.cell (p := ⟨P, 0, none⟩) k1).trans h6,
    Nat.lt_of_lt_of_le k1 hb.size, Nat.lt_of_lt_of_le k2 hb.size, Nat.lt_of_lt_of_le k3 hb.size, Nat.lt_of_lt_of_le k4 hb.size, Nat.lt_of_lt_of_le k5 hb.size, h7.trans (hb.mono h7.size)⟩
theorem AhS.bel (h : AhS W P P1 P2 b g i off F z1 z2 t A n c w) : Below W.heap.size W w := h.2.2.2.2.2.2.2.2.2.2.2
theorem AhS.cp (h : AhS W P P1 P2 b g i off F z1 z2 t A n c w) : w.cell? ⟨P, 0, none⟩ = some (.int .i64 off) := h.2.2.2.2.2.1
theorem AhS.lp (h : AhS W P P1 P2 b g i off F z1 z2 t A n c w) : P < w.heap.size := h.2.2.2.2.2.2.1
end
set_option maxHeartbeats 4000000 in
set_option maxRecDepth 100000 in
theorem findA_c (x : Ix) (A : Option Addr) (c base b P P1 P2 i : Nat) (off : Int) (e : En) (W : World) (h : IxIs W base b x A c) (hP : W.cell? ⟨P, 0, none⟩ = some (.int .i64 off)) (hl : P < W.heap.size)
    (hP1 : W.cell? ⟨P1, 0, none⟩ = some (.func (.func 23) #[] #[.pointer (some ⟨P, 0, none⟩)])) (hl1 : P1 < W.heap.size) (hP2 : W.cell? ⟨P2, 0, none⟩ = some (.pointer (some ⟨b, 0, none⟩))) (hl2 : P2 < W.heap.size) (he : x.L[i]? = some e) (hn : x.L.length ≤ 1000000) :
    Calls Try.prog 28 #[.int .i64 i, .pointer (some ⟨P1, 0, none⟩), .pointer (some ⟨P2, 0, none⟩)] W (Good W (.bool (decide (off < e.1)))) := by
  obtain ⟨c0, c1, c2, c3, f0, f1, f2, f3⟩ := h.cells
  obtain ⟨g, rfl, q0, q1, hg, hcap⟩ := h.entry he
  have hil := (List.getElem?_eq_some_iff.1 he).1
  have hoke := h.oks e (List.mem_of_getElem? he)
  obtain ⟨o, q, t⟩ := e
  simp only at q0 q1
  have cs := fun w => told_c o q t w hoke.1 hoke.2
  have cf := fun w h1 h2 => find1_c o q t off P w h1 h2
  have hS : AhS W P P1 P2 b g i off (.func (.func 23) #[] #[.pointer (some ⟨P, 0, none⟩)]) (fl o) (fl q) t (some ⟨g, 0, none⟩) x.L.length c W := ⟨hP1, hP2, c1, q0, q1, hP, hl, hl1, hl2, h.box.lt, hg, Below.refl _ _⟩
  obtain ⟨every, L, lo, lp, lt⟩ := x
  simp only at *
  clear h he hoke c0 c2 c3 f0 f1 f2 f3 hP hP1 hP2 c1 q0 q1
  generalize fl o = zo at *
  generalize fl q = zq at *
  have j0 : (0 : Int) ≤ (i : Int) := by omega
  have j1 : (i : Int) < (L.length : Int) := by omega
  go_enter Try.func28, Try.ntmps28
  go_wp2_with fail
  unfold AhS at hS
  go_region_held3 (fun w => w.cell? ⟨P1, 0, none⟩ = some (.func (.func 23) #[] #[.pointer (some ⟨P, 0, none⟩)]) ∧ w.cell? ⟨P2, 0, none⟩ = some (.pointer (some ⟨b, 0, none⟩)) ∧ w.cell? ⟨b, 1, none⟩ = some (.slice (some ⟨g, 0, none⟩) L.length c) ∧ w.cell? ⟨g, i * 2, none⟩ = some (.complex .f64 zo zq) ∧ w.cell? ⟨g, i * 2 + 1, none⟩ = some (.int .i64 t) ∧ w.cell? ⟨P, 0, none⟩ = some (.int .i64 off) ∧ P < w.heap.size ∧ P1 < w.heap.size ∧ P2 < w.heap.size ∧ b < w.heap.size ∧ g < w.heap.size ∧ Below W.heap.size W w)
    (first | exact AhS.later hS ((Below.refl _ _).drew) | exact AhS.later (W := W) (P := P) (P1 := P1) (P2 := P2) (b := b) (g := g) (i := i) (by assumption) (by assumption))
    (first | ((with_reducible refine (cs _).mono ?_); rintro e w1 ⟨rfl, hb1⟩) | ((with_reducible refine (cf _ ?_ ?_).mono ?_); (exact AhS.cp (W := W) (P := P) (P1 := P1) (P2 := P2) (b := b) (g := g) (i := i) (by assumption)); (exact AhS.lp (W := W) (P := P) (P1 := P1) (P2 := P2) (b := b) (g := g) (i := i) (by assumption)); rintro e w1 ⟨rfl, hb1⟩))
  all_goals
    go_wp2
    go_ret
    exact ⟨rfl, AhS.bel (W := W) (P := P) (P1 := P1) (P2 := P2) (b := b) (g := g) (i := i) (by assumption)⟩
set_option maxHeartbeats 4000000 in
set_option maxRecDepth 100000 in
theorem seekA_c (x : Ix) (A : Option Addr) (c base b P P1 P2 i : Nat) (off : Int) (e : En) (W : World) (h : IxIs W base b x A c) (hP : W.cell? ⟨P, 0, none⟩ = some (.int .i64 off)) (hl : P < W.heap.size)
    (hP1 : W.cell? ⟨P1, 0, none⟩ = some (.func (.func 24) #[] #[.pointer (some ⟨P, 0, none⟩)])) (hl1 : P1 < W.heap.size) (hP2 : W.cell? ⟨P2, 0, none⟩ = some (.pointer (some ⟨b, 0, none⟩))) (hl2 : P2 < W.heap.size) (he : x.L[i]? = some e) (hn : x.L.length ≤ 1000000) :
    Calls Try.prog 28 #[.int .i64 i, .pointer (some ⟨P1, 0, none⟩), .pointer (some ⟨P2, 0, none⟩)] W (Good W (.bool (decide (off ≤ e.2.2)))) := by
  obtain ⟨c0, c1, c2, c3, f0, f1, f2, f3⟩ := h.cells
  obtain ⟨g, rfl, q0, q1, hg, hcap⟩ := h.entry he
  have hil := (List.getElem?_eq_some_iff.1 he).1
  have hoke := h.oks e (List.mem_of_getElem? he)
  obtain ⟨o, q, t⟩ := e
  simp only at q0 q1
  have cs := fun w => told_c o q t w hoke.1 hoke.2
  have cf := fun w h1 h2 => seek1_c o q t off P w h1 h2
  have hS : AhS W P P1 P2 b g i off (.func (.func 24) #[] #[.pointer (some ⟨P, 0, none⟩)]) (fl o) (fl q) t (some ⟨g, 0, none⟩) x.L.length c W := ⟨hP1, hP2, c1, q0, q1, hP, hl, hl1, hl2, h.box.lt, hg, Below.refl _ _⟩
  obtain ⟨every, L, lo, lp, lt⟩ := x
  simp only at *
  clear h he hoke c0 c2 c3 f0 f1 f2 f3 hP hP1 hP2 c1 q0 q1
  generalize fl o = zo at *
  generalize fl q = zq at *
  have j0 : (0 : Int) ≤ (i : Int) := by omega
  have j1 : (i : Int) < (L.length : Int) := by omega
  go_enter Try.func28, Try.ntmps28
  go_wp2_with fail
  unfold AhS at hS
  go_region_held3 (fun w => w.cell? ⟨P1, 0, none⟩ = some (.func (.func 24) #[] #[.pointer (some ⟨P, 0, none⟩)]) ∧ w.cell? ⟨P2, 0, none⟩ = some (.pointer (some ⟨b, 0, none⟩)) ∧ w.cell? ⟨b, 1, none⟩ = some (.slice (some ⟨g, 0, none⟩) L.length c) ∧ w.cell? ⟨g, i * 2, none⟩ = some (.complex .f64 zo zq) ∧ w.cell? ⟨g, i * 2 + 1, none⟩ = some (.int .i64 t) ∧ w.cell? ⟨P, 0, none⟩ = some (.int .i64 off) ∧ P < w.heap.size ∧ P1 < w.heap.size ∧ P2 < w.heap.size ∧ b < w.heap.size ∧ g < w.heap.size ∧ Below W.heap.size W w)
    (first | exact AhS.later hS ((Below.refl _ _).drew) | exact AhS.later (W := W) (P := P) (P1 := P1) (P2 := P2) (b := b) (g := g) (i := i) (by assumption) (by assumption))
    (first | ((with_reducible refine (cs _).mono ?_); rintro e w1 ⟨rfl, hb1⟩) | ((with_reducible refine (cf _ ?_ ?_).mono ?_); (exact AhS.cp (W := W) (P := P) (P1 := P1) (P2 := P2) (b := b) (g := g) (i := i) (by assumption)); (exact AhS.lp (W := W) (P := P) (P1 := P1) (P2 := P2) (b := b) (g := g) (i := i) (by assumption)); rintro e w1 ⟨rfl, hb1⟩))
  all_goals
    go_wp2
    go_ret
    exact ⟨rfl, AhS.bel (W := W) (P := P) (P1 := P1) (P2 := P2) (b := b) (g := g) (i := i) (by assumption)⟩
end Go.Proofs.Ytljgiabaekddlaa
