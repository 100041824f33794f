/- The document's index: Add, Find, Seek. No condition but that the entries are not too many. -/
import Derived.Test.YtljgiabaekddlaaIxAd
namespace Go.Proofs.Ytljgiabaekddlaa
open Go.RowKit
set_option linter.unusedVariables false
def anyB (L : List En) : Bool := !(decide (L.length = 0))
def rxC (every : Int) (v : Value) (any : Bool) (lo lp lt : Int) : Array Value := #[.int .i64 every, v, .bool any, .int .i64 lo, .int .i64 lp, .int .i64 0, .int .i64 lt]
/-- The document's index in memory. -/
structure RxIs (w : World) (base b : Nat) (x : Ix) (A : Option Addr) (c : Nat) : Prop where
  box : Box w b 33 (rxC x.every (.slice A x.L.length c) (anyB x.L) x.lo x.lp x.lt)
  row : w.ownsRow base 31 3 (.slice A x.L.length c) x.L.length (tldC x.L)
  lo : base ≤ b
  l0 : x.L.length = 0 → x.lt = 0
  ev : 0 ≤ x.every ∧ x.every ≤ 1000000
  oks : ∀ e ∈ x.L, okE e
theorem RxIs.later {w w' : World} {base b c : Nat} {x : Ix} {A : Option Addr} (h : RxIs w base b x A c) (hb : Below w.heap.size w w') : RxIs w' base b x A c := ⟨h.box.later hb, own_below h.row hb, h.lo, h.l0, h.ev, h.oks⟩
theorem rx_cells {w : World} {b : Nat} {every lo lp lt : Int} {v : Value} {any : Bool} (h : Box w b 33 (rxC every v any lo lp lt)) : w.cell? ⟨b, 0, none⟩ = some (.int .i64 every) ∧ w.cell? ⟨b, 1, none⟩ = some v ∧ w.cell? ⟨b, 2, none⟩ = some (.bool any) ∧ w.cell? ⟨b, 3, none⟩ = some (.int .i64 lo) ∧ w.cell? ⟨b, 4, none⟩ = some (.int .i64 lp) ∧ w.cell? ⟨b, 5, none⟩ = some (.int .i64 0) ∧ w.cell? ⟨b, 6, none⟩ = some (.int .i64 lt) ∧
    w.frozen? ⟨b, 1, none⟩ = false ∧ w.frozen? ⟨b, 2, none⟩ = false ∧ w.frozen? ⟨b, 3, none⟩ = false ∧ w.frozen? ⟨b, 4, none⟩ = false ∧ w.frozen? ⟨b, 5, none⟩ = false ∧ w.frozen? ⟨b, 6, none⟩ = false :=
  ⟨by rw [h.cell]; rfl, by rw [h.cell]; rfl, by rw [h.cell]; rfl, by rw [h.cell]; rfl, by rw [h.cell]; rfl, by rw [h.cell]; rfl, by rw [h.cell]; rfl, h.frozen 1, h.frozen 2, h.frozen 3, h.frozen 4, h.frozen 5, h.frozen 6⟩
theorem rx_entry {w : World} {base c ty : Nat} {L : List En} {A : Option Addr} (hrow : w.ownsRow base ty 3 (.slice A L.length c) L.length (tldC L)) {j : Nat} {e : En} (hj : L[j]? = some e) :
    ∃ g, A = some ⟨g, 0, none⟩ ∧ w.cell? ⟨g, j * 3, none⟩ = some (.int .i64 e.1) ∧ w.cell? ⟨g, j * 3 + 1, none⟩ = some (.int .i64 e.2.1) ∧ w.cell? ⟨g, j * 3 + 2, none⟩ = some (.int .i64 e.2.2) ∧ g < w.heap.size ∧ L.length ≤ c := by
  have hl : j < L.length := (List.getElem?_eq_some_iff.1 hj).1
  rcases hrow.2 with ⟨hv, h0⟩ | ⟨g, cap, cur, hv, hg, hh, h4, h5, h6, h7⟩
  · omega
  · injection hv with e1 e2 e3
    subst e1 e3
    obtain ⟨k1, k2, k3⟩ := tldC_at hj
    exact ⟨g, rfl, (hrow.cellAt (j * 3) (by omega)).trans k1, (hrow.cellAt (j * 3 + 1) (by omega)).trans k2, (hrow.cellAt (j * 3 + 2) (by omega)).trans k3, lt_of_there hh, h4⟩
def GotRAdd (W : World) (base b : Nat) (x : Ix) (A : Option Addr) (o p t : Int) (en : Ending) (w' : World) : Prop :=
  ∃ (A' : Option Addr) (c' : Nat), en = .returned (.int .i64 (x.addE o p t)) ∧ RxIs w' base b (x.add o p t) A' c' ∧ Off (fun k => k = b ∨ blk A k) W w' ∧ ∀ k, blk A' k → blk A k ∨ W.heap.size ≤ k
theorem GotRAdd.bad {W : World} {base b c : Nat} {x : Ix} {A : Option Addr} {o p t : Int} (h : RxIs W base b x A c) (hk : x.ok o p t = false) : GotRAdd W base b x A o p t (.returned (.int .i64 1)) W := by
  unfold GotRAdd Ix.add Ix.addE
  rw [hk]
  exact ⟨A, c, rfl, h, Off.refl _ _, fun k hb => .inl hb⟩
theorem GotRAdd.good {W w' : World} {base b c' : Nat} {x : Ix} {A A' : Option Addr} {o p t m : Int} (hk : x.ok o p t = true) (hm : max x.lt t = m) {L' : List En} (hL : (if dueB x p = true then x.L ++ [(o, p, m)] else x.L) = L') (h : RxIs w' base b ⟨x.every, L', o, p, m⟩ A' c') (ho : Off (fun k => k = b ∨ blk A k) W w') (hn : ∀ k, blk A' k → blk A k ∨ W.heap.size ≤ k) :
    GotRAdd W base b x A o p t (.returned (.int .i64 0)) w' := by
  unfold GotRAdd Ix.add Ix.addE
  rw [if_pos hk, if_pos hk, hm, hL]
  exact ⟨A', c', rfl, h, ho, hn⟩
theorem rtInfo : (Try.prog.info? 31).map (fun i => (i.zero, i.size, i.bytes)) = some (some (.agg #[.int .i64 0, .int .i64 0, .int .i64 0]), 3, 24) := by kernel_rfl
theorem rt_one (o p t : Int) : ∀ u ∈ [Value.int .i64 o, Value.int .i64 p, Value.int .i64 t], u.oneCell' = true := by
  intro u hu
  simp at hu
  rcases hu with rfl | rfl | rfl <;> rfl
/-- Behind the stores: everything but the entries is there. -/
def rst (W : World) (b : Nat) (o p : Int) : World := (((W.setCell ⟨b, 2, none⟩ (.bool true)).setCell ⟨b, 3, none⟩ (.int .i64 o)).setCell ⟨b, 4, none⟩ (.int .i64 p)).setCell ⟨b, 5, none⟩ (.int .i64 0)
theorem rst_box {W : World} {b : Nat} {every lo lp lt o p : Int} {v : Value} {any : Bool} (h : Box W b 33 (rxC every v any lo lp lt)) : Box (rst W b o p) b 33 (rxC every v true o p lt) := by
  unfold rst rxC at *
  have h1 : Box _ b 33 #[.int .i64 every, v, .bool true, .int .i64 lo, .int .i64 lp, .int .i64 0, .int .i64 lt] := h.set 2 _
  have h2 : Box _ b 33 #[.int .i64 every, v, .bool true, .int .i64 o, .int .i64 lp, .int .i64 0, .int .i64 lt] := h1.set 3 _
  have h3 : Box _ b 33 #[.int .i64 every, v, .bool true, .int .i64 o, .int .i64 p, .int .i64 0, .int .i64 lt] := h2.set 4 _
  exact h3.set 5 _
theorem rst_off (W : World) (b : Nat) (o p : Int) (S : Nat → Prop) (hS : S b) : Off S W (rst W b o p) := by
  unfold rst
  exact ((((Off.refl S W).set (p := ⟨b, 2, none⟩) (.inl hS) _).set (p := ⟨b, 3, none⟩) (.inl hS) _).set (p := ⟨b, 4, none⟩) (.inl hS) _).set (p := ⟨b, 5, none⟩) (.inl hS) _
/-- What is there between the stores and the append: 'x' with the new last place, 'any' as it is. -/
structure RxMid (w : World) (base b : Nat) (x : Ix) (A : Option Addr) (c : Nat) : Prop where
  box : Box w b 33 (rxC x.every (.slice A x.L.length c) true x.lo x.lp x.lt)
  row : w.ownsRow base 31 3 (.slice A x.L.length c) x.L.length (tldC x.L)
  lo : base ≤ b
  ev : 0 ≤ x.every ∧ x.every ≤ 1000000
  oks : ∀ e ∈ x.L, okE e
theorem RxIs.mid0 {W : World} {base b c : Nat} {x : Ix} {A : Option Addr} (h : RxIs W base b x A c) (o p : Int) : RxMid (rst W b o p) base b ⟨x.every, x.L, o, p, x.lt⟩ A c :=
  ⟨rst_box h.box, own_off h.row (rst_off W b o p (· = b) rfl) (fun k e => own_ne h.row h.box (by decide) k e), h.lo, h.ev, h.oks⟩
theorem RxIs.mid6 {W : World} {base b c : Nat} {x : Ix} {A : Option Addr} (h : RxIs W base b x A c) (o p t : Int) : RxMid (rst (W.setCell ⟨b, 6, none⟩ (.int .i64 t)) b o p) base b ⟨x.every, x.L, o, p, t⟩ A c := by
  have hb : Box (W.setCell ⟨b, 6, none⟩ (.int .i64 t)) b 33 (rxC x.every (.slice A x.L.length c) (anyB x.L) x.lo x.lp t) := h.box.set 6 _
  have hr := own_off h.row (Off.one W ⟨b, 6, none⟩ (.int .i64 t)) (fun k e => own_ne h.row h.box (by decide) k e)
  exact ⟨rst_box hb, own_off hr (rst_off _ b o p (· = b) rfl) (fun k e => own_ne hr hb (by decide) k e), h.lo, h.ev, h.oks⟩
theorem RxMid.later {w w' : World} {base b c : Nat} {x : Ix} {A : Option Addr} (h : RxMid w base b x A c) (hb : Below w.heap.size w w') : RxMid w' base b x A c := ⟨h.box.later hb, own_below h.row hb, h.lo, h.ev, h.oks⟩
theorem RxMid.is {w : World} {base b c : Nat} {x : Ix} {A : Option Addr} (h : RxMid w base b x A c) (hL : x.L.length ≠ 0) : RxIs w base b x A c := by
  refine ⟨?_, h.row, h.lo, fun e => absurd e hL, h.ev, h.oks⟩
  have : anyB x.L = true := by unfold anyB; rw [decide_eq_false hL]; rfl
  rw [this]
  exact h.box
theorem RxMid.appended {w w' : World} {base b c g cap : Nat} {x : Ix} {A : Option Addr} (h : RxMid w base b x A c) {e : En} (he : okE e) {o : Obj} (hown : w'.ownsRow base 31 3 (.slice (some ⟨g, 0, none⟩) (x.L.length + 1) cap) (x.L.length + 1) (tldC x.L ++ [.int .i64 e.1, .int .i64 e.2.1, .int .i64 e.2.2]))
    (hg : (w.drew.alloc o).grownBy w' (Value.slice A x.L.length c).ownBlock) :
    w'.cell? ⟨b, 1, none⟩ = some (.slice A x.L.length c) ∧ w'.frozen? ⟨b, 1, none⟩ = false ∧ RxIs (w'.setCell ⟨b, 1, none⟩ (.slice (some ⟨g, 0, none⟩) (x.L.length + 1) cap)) base b ⟨x.every, x.L ++ [e], x.lo, x.lp, x.lt⟩ (some ⟨g, 0, none⟩) cap ∧
      Off (fun k => k = b ∨ blk A k) w (w'.setCell ⟨b, 1, none⟩ (.slice (some ⟨g, 0, none⟩) (x.L.length + 1) cap)) := by
  have hne := own_ne h.row h.box (by decide)
  have hbA := (h.box.drew).alloc o
  have hb' : Box w' b 33 (rxC x.every (.slice A x.L.length c) true x.lo x.lp x.lt) := (hg.block b hbA.lt (fun e => hne _ e.symm rfl)).trans hbA
  have ho1 : Off (fun k => k = b ∨ blk A k) w (w.drew.alloc o) := ((Off.refl _ w).drew).alloc o
  have ho2 := ho1.grown hg (fun k e _ => .inr (own_blk e))
  refine ⟨(hb'.cell 1).trans rfl, hb'.frozen 1, ⟨?_, ?_, h.lo, (fun e' => by rw [List.length_append] at e'; simp at e'), h.ev, ?_⟩, ho2.set (p := ⟨b, 1, none⟩) (.inl (.inl rfl)) _⟩
  · show Box _ b _ (rxC x.every (.slice (some ⟨g, 0, none⟩) (x.L ++ [e]).length cap) (anyB (x.L ++ [e])) x.lo x.lp x.lt)
    have : anyB (x.L ++ [e]) = true := by unfold anyB; rw [decide_eq_false (by simp)]; rfl
    rw [this, List.length_append]
    exact hb'.set 1 _
  · show World.ownsRow _ base _ 3 (.slice (some ⟨g, 0, none⟩) (x.L ++ [e]).length cap) (x.L ++ [e]).length (tldC (x.L ++ [e]))
    rw [tldC_snoc, List.length_append]
    exact own_off hown (Off.one w' ⟨b, 1, none⟩ _) (fun k e => own_ne hown hb' (by decide) k e)
  · intro y hy
    rw [List.mem_append] at hy
    rcases hy with hy | hy
    · exact h.oks y hy
    · simp at hy
      subst hy
      exact he
set_option maxHeartbeats 16000000 in
set_option maxRecDepth 100000 in
theorem radd_c (x : Ix) (A : Option Addr) (c base b : Nat) (o p t : Int) (W : World) (h : RxIs W base b x A c) (hbase : base ≤ W.heap.size) (hn : x.L.length ≤ 100000) :
    Calls Try.prog 11 #[.pointer (some ⟨b, 0, none⟩), .int .i64 o, .int .i64 p, .int .i64 t] W (GotRAdd W base b x A o p t) := by
  have co := fun w => may_c o w
  have cp := fun w => may_c p w
  have ct := fun w => may_c t w
  have HX := Lib.hid h
  have hbx := h.box
  obtain ⟨c0, c1, c2, c3, c4, c5, c6, f1, f2, f3, f4, f5, f6⟩ := rx_cells hbx
  clear hbx
  cases ho : ixo o with
  | false =>
    have hbad : x.ok o p t = false := by unfold Ix.ok; rw [ho]; rfl
    rw [ho] at co
    have HB := Lib.hid hbad
    clear ho hbad h
    go_enter Try.func11, Try.ntmps11
    go_wp2_with (first | ((with_reducible refine (co _).mono ?_); rintro en w1 ⟨rfl, hw⟩; (have hw' := hw.symm; subst hw')) | ((with_reducible refine (cp _).mono ?_); rintro en w1 ⟨rfl, hw⟩; (have hw' := hw.symm; subst hw')) | ((with_reducible refine (ct _).mono ?_); rintro en w1 ⟨rfl, hw⟩; (have hw' := hw.symm; subst hw')))
    go_ret
    exact GotRAdd.bad HX.out HB.out
  | true =>
  rw [ho] at co
  cases hp : ixo p with
  | false =>
    have hbad : x.ok o p t = false := by unfold Ix.ok; rw [ho, hp]; rfl
    rw [hp] at cp
    have HB := Lib.hid hbad
    clear ho hp hbad h
    go_enter Try.func11, Try.ntmps11
    go_wp2_with (first | ((with_reducible refine (co _).mono ?_); rintro en w1 ⟨rfl, hw⟩; (have hw' := hw.symm; subst hw')) | ((with_reducible refine (cp _).mono ?_); rintro en w1 ⟨rfl, hw⟩; (have hw' := hw.symm; subst hw')) | ((with_reducible refine (ct _).mono ?_); rintro en w1 ⟨rfl, hw⟩; (have hw' := hw.symm; subst hw')))
    go_ret
    exact GotRAdd.bad HX.out HB.out
  | true =>
  rw [hp] at cp
  cases ht : ixo t with
  | false =>
    have hbad : x.ok o p t = false := by unfold Ix.ok; rw [ho, hp, ht]; rfl
    rw [ht] at ct
    have HB := Lib.hid hbad
    clear ho hp ht hbad h
    go_enter Try.func11, Try.ntmps11
    go_wp2_with (first | ((with_reducible refine (co _).mono ?_); rintro en w1 ⟨rfl, hw⟩; (have hw' := hw.symm; subst hw')) | ((with_reducible refine (cp _).mono ?_); rintro en w1 ⟨rfl, hw⟩; (have hw' := hw.symm; subst hw')) | ((with_reducible refine (ct _).mono ?_); rintro en w1 ⟨rfl, hw⟩; (have hw' := hw.symm; subst hw')))
    go_ret
    exact GotRAdd.bad HX.out HB.out
  | true =>
  rw [ht] at ct
  have HT := Lib.hid (ixo_of ht)
  have HP := Lib.hid (ixo_of hp)
  have HOP := Lib.hid (And.intro ho hp)
  by_cases h0 : x.L.length = 0
  · have hgood : x.ok o p t = true := by unfold Ix.ok risesB; rw [ho, hp, ht, decide_eq_true h0]; rfl
    have HG := Lib.hid hgood
    have HMX : Hid (max x.lt t = t) := Lib.hid (by have := h.l0 h0; have := HT.out; omega)
    have HD : Hid (dueB x p = true) := Lib.hid (by unfold dueB; rw [decide_eq_true h0]; rfl)
    have hany : anyB x.L = false := by unfold anyB; rw [decide_eq_true h0]; rfl
    rw [hany] at c2
    have HMID : Hid (RxMid (rst (W.setCell ⟨b, 6, none⟩ (.int .i64 t)) b o p) base b ⟨x.every, x.L, o, p, t⟩ A c) := Lib.hid (h.mid6 o p t)
    have HOFF : Hid (Off (fun k => k = b ∨ blk A k) W (rst (W.setCell ⟨b, 6, none⟩ (.int .i64 t)) b o p)) := Lib.hid (((Off.refl _ W).set (p := ⟨b, 6, none⟩) (.inl (.inl rfl)) _).trans (rst_off _ b o p (fun k => k = b ∨ blk A k) (.inl rfl)) (fun i _ h => h))
    clear ho hp ht hgood h hany
    obtain ⟨w3, hw3⟩ : ∃ w, rst (W.setCell ⟨b, 6, none⟩ (.int .i64 t)) b o p = w := ⟨_, rfl⟩
    rw [hw3] at HMID HOFF
    have HW3 := Lib.hid hw3
    clear hw3
    go_enter Try.func11, Try.ntmps11
    go_wp2_with (first | ((with_reducible refine (co _).mono ?_); rintro en w1 ⟨rfl, hw⟩; (have hw' := hw.symm; subst hw')) | ((with_reducible refine (cp _).mono ?_); rintro en w1 ⟨rfl, hw⟩; (have hw' := hw.symm; subst hw')) | ((with_reducible refine (ct _).mono ?_); rintro en w1 ⟨rfl, hw⟩; (have hw' := hw.symm; subst hw')))
    have hw3 := HW3.out
    unfold rst at hw3
    rw [hw3]
    obtain ⟨c0, c1, c2, c3, c4, c5, c6, f1, _⟩ := rx_cells HMID.out.box
    simp only at c0 c1 c2 c3 c4 c6
    have h0d : decide ((x.L.length : Int) = 0) = true := decide_eq_true (by omega)
    have H0L := Lib.hid h0
    rw [h0] at c1
    clear h0 h0d f2 f3 f4 f5 f6 hw3
    go_quiet (fail)
    have HM5 := Lib.hid (HMID.out.later (w' := w3.drewN nq) ⟨rfl, rfl, rfl, Nat.le_refl _, fun _ _ => rfl⟩)
    have HO5 := Lib.hid (HOFF.out.drewN nq)
    clear c0 c1 c2 c3 c4 c5 c6 f1
    generalize w3.drewN nq = w5 at *
    obtain ⟨c0, c1, c2, c3, c4, c5, c6, f1, _⟩ := rx_cells (HM5.out.later (Below.refl w5.heap.size w5).drew).box
    obtain ⟨d0, d1, d2, d3, d4, d5, d6, e1, _⟩ := rx_cells (HM5.out.later ((Below.refl w5.heap.size w5).alloc (Nat.le_refl _) (.cells #[.int .i64 o, .int .i64 p, .int .i64 t] 31))).box
    simp only at c0 c1 c2 c3 c4 c6 d0 d1 d2 d3 d4 d6
    have hF := fun g cap w' hown hg => HM5.out.appended (w' := w') (g := g) (cap := cap) (e := (o, p, t)) ⟨HOP.out.1, HOP.out.2⟩ (o := .cells #[.int .i64 o, .int .i64 p, .int .i64 t] 31) hown hg
    have hrow := own_below (HM5.out.later (Below.refl w5.heap.size w5).drew).row ((Below.refl w5.drew.heap.size w5.drew).alloc (Nat.le_refl _) (.cells #[.int .i64 o, .int .i64 p, .int .i64 t] 31))
    have hnw := news_at9 (Box.new w5.drew 31 #[.int .i64 o, .int .i64 p, .int .i64 t])
    have hbw : base ≤ w5.heap.size := Nat.le_trans hbase HO5.out.size
    have h1c := rt_one o p t
    simp only at hF hrow
    have HO := Lib.hid (fun w' (h : Off (fun k => k = b ∨ blk A k) w5 w') => HO5.out.trans h (fun i _ h => h))
    have HSZ := Lib.hid HO5.out.size
    obtain ⟨i0, hq, hqz, hqs, hqb⟩ := info_parts rtInfo
    have HF := Lib.hid hF
    clear hF HM5 HO5
    go_wp2_with fail
    go_region_law (refine step_append_lies (w5.alloc (.cells #[.int .i64 o, .int .i64 p, .int .i64 t] 31)).drew rfl (.tmp 102) (.tmp 110) 29 rfl base 31 i0 (.agg #[.int .i64 0, .int .i64 0, .int .i64 0]) 3 24 Try.underlying29 hq hqz hqs hqb rfl (by decide) (.slice A x.L.length c) x.L.length (tldC x.L) (by simp [Act.eval]) hrow ⟨w5.heap.size, 0, none⟩ 1 1 [.int .i64 o, .int .i64 p, .int .i64 t] (by simp [Act.eval]) rfl hnw h1c (by decide) (by unfold maxLen; omega) (by omega) (by simp; omega) (w5.heap.size + 1) (by simp) ?_; intro g2 cap2 w4 hown4 hgrow4 hg4 hlt4; obtain ⟨k1, k2, k3⟩ := HF.out _ _ w4 hown4 hgrow4)
    all_goals
      have E3 := Lib.hid k3
      have G4 := Lib.hid hg4
      clear k3 hown4 hgrow4 hg4
      go_wp2_with fail
      go_ret
      exact GotRAdd.good HG.out HMX.out (by rw [HD.out]; rfl) E3.out.1 (HO.out _ E3.out.2) (fun k hk => by
        obtain ⟨a, ha, rfl⟩ := hk
        injection ha with ha
        subst ha
        rcases G4.out with h | h
        · exact .inl (own_blk h)
        · exact .inr (by have := HSZ.out; show W.heap.size ≤ g2; omega))
  · have hany : anyB x.L = true := by unfold anyB; rw [decide_eq_false h0]; rfl
    rw [hany] at c2
    by_cases q1 : o ≤ x.lo
    · have hbad : x.ok o p t = false := by unfold Ix.ok risesB; rw [ho, hp, ht, decide_eq_false h0, decide_eq_false (show ¬ x.lo < o by omega)]; rfl
      have HB := Lib.hid hbad
      clear ho hp ht hbad h hany
      go_enter Try.func11, Try.ntmps11
      go_wp2_with (first | ((with_reducible refine (co _).mono ?_); rintro en w1 ⟨rfl, hw⟩; (have hw' := hw.symm; subst hw')) | ((with_reducible refine (cp _).mono ?_); rintro en w1 ⟨rfl, hw⟩; (have hw' := hw.symm; subst hw')) | ((with_reducible refine (ct _).mono ?_); rintro en w1 ⟨rfl, hw⟩; (have hw' := hw.symm; subst hw')))
      go_ret
      exact GotRAdd.bad HX.out HB.out
    by_cases q2 : p ≤ x.lp
    · have hbad : x.ok o p t = false := by unfold Ix.ok risesB; rw [ho, hp, ht, decide_eq_false h0, decide_eq_false (show ¬ x.lp < p by omega)]; simp
      have HB := Lib.hid hbad
      have q1' : decide (o ≤ x.lo) = false := decide_eq_false q1
      clear ho hp ht hbad h hany
      go_enter Try.func11, Try.ntmps11
      go_wp2_with (first | ((with_reducible refine (co _).mono ?_); rintro en w1 ⟨rfl, hw⟩; (have hw' := hw.symm; subst hw')) | ((with_reducible refine (cp _).mono ?_); rintro en w1 ⟨rfl, hw⟩; (have hw' := hw.symm; subst hw')) | ((with_reducible refine (ct _).mono ?_); rintro en w1 ⟨rfl, hw⟩; (have hw' := hw.symm; subst hw')))
      go_ret
      exact GotRAdd.bad HX.out HB.out
    have hgood : x.ok o p t = true := by unfold Ix.ok risesB; rw [ho, hp, ht, decide_eq_false h0, decide_eq_true (show x.lo < o by omega), decide_eq_true (show x.lp < p by omega)]; rfl
    have HG := Lib.hid hgood
    have HEV := Lib.hid h.ev
    have HE : Hid (x.L[x.L.length - 1]? = some (atE x.L (x.L.length - 1)) ∧ lastP x.L = (atE x.L (x.L.length - 1)).2.1 ∧ 0 ≤ lastP x.L ∧ lastP x.L ≤ 1099511627776) := Lib.hid (by
      obtain ⟨e, he, hle, hem⟩ := last_at h0
      have ha : atE x.L (x.L.length - 1) = e := by unfold atE; rw [he]; rfl
      have := ixo_of (h.oks e hem).2
      rw [ha]
      exact ⟨he, hle, by rw [hle]; exact this.1, by rw [hle]; exact this.2⟩)
    have HDU : Hid ((dueB x p = false → decide (lastP x.L + x.every ≤ p) = false) ∧ (dueB x p = true → decide (lastP x.L + x.every ≤ p) = true)) := Lib.hid (by
      unfold dueB
      rw [decide_eq_false h0, Bool.false_or]
      constructor
      · intro e; rw [decide_eq_false_iff_not] at e ⊢; omega
      · intro e; rw [decide_eq_true_iff] at e ⊢; omega)
    have H0L := Lib.hid h0
    have q1' : decide (o ≤ x.lo) = false := decide_eq_false q1
    have q2' : decide (p ≤ x.lp) = false := decide_eq_false q2
    clear ho hp ht hgood hany
    rcases Classical.em (x.lt < t) with q | q
    · have HMX : Hid (max x.lt t = t) := Lib.hid (by omega)
      have HMID : Hid (RxMid (rst (W.setCell ⟨b, 6, none⟩ (.int .i64 t)) b o p) base b ⟨x.every, x.L, o, p, t⟩ A c) := Lib.hid (h.mid6 o p t)
      have HOFF : Hid (Off (fun k => k = b ∨ blk A k) W (rst (W.setCell ⟨b, 6, none⟩ (.int .i64 t)) b o p)) := Lib.hid (((Off.refl _ W).set (p := ⟨b, 6, none⟩) (.inl (.inl rfl)) _).trans (rst_off _ b o p (fun k => k = b ∨ blk A k) (.inl rfl)) (fun i _ h => h))
      clear h
      obtain ⟨w3, hw3⟩ : ∃ w, rst (W.setCell ⟨b, 6, none⟩ (.int .i64 t)) b o p = w := ⟨_, rfl⟩
      rw [hw3] at HMID HOFF
      have HW3 := Lib.hid hw3
      clear hw3
      go_enter Try.func11, Try.ntmps11
      go_wp2_with (first | ((with_reducible refine (co _).mono ?_); rintro en w1 ⟨rfl, hw⟩; (have hw' := hw.symm; subst hw')) | ((with_reducible refine (cp _).mono ?_); rintro en w1 ⟨rfl, hw⟩; (have hw' := hw.symm; subst hw')) | ((with_reducible refine (ct _).mono ?_); rintro en w1 ⟨rfl, hw⟩; (have hw' := hw.symm; subst hw')))
      have hw3 := HW3.out
      unfold rst at hw3
      rw [hw3]
      obtain ⟨c0, c1, c2, c3, c4, c5, c6, f1, _⟩ := rx_cells HMID.out.box
      simp only at c0 c1 c2 c3 c4 c6
      obtain ⟨g, hA, q0, q1, q2, hg, hcap⟩ := rx_entry HMID.out.row HE.out.1
      subst hA
      obtain ⟨j, hj⟩ : ∃ j, x.L.length - 1 = j := ⟨_, rfl⟩
      have n1 : (x.L.length : Int) - 1 = (j : Int) := by omega
      have j0 : (0 : Int) ≤ (j : Int) := by omega
      have j1 : (j : Int) < (x.L.length : Int) := by omega
      have g1 : IntKind.i64.wrap ((x.L.length : Int) - 1) = (j : Int) := by rw [IntWalk.i64_in _ (by omega)]; exact n1
      have g3 : IntKind.i64.wrap (j : Int) = (j : Int) := IntWalk.i64_in _ (by omega)
      have hev := HEV.out
      have hqr := HE.out.2.2
      have g2 : IntKind.i64.wrap (lastP x.L + x.every) = lastP x.L + x.every := IntWalk.i64_in _ (by omega)

      rw [← HE.out.2.1] at q1
      rw [hj] at q1
      have h0d : decide ((x.L.length : Int) = 0) = false := decide_eq_false (by omega)
      have h0e : ((x.L.length : Int) == 0) = false := by rw [beq_eq_false_iff_ne]; omega
      clear f2 f3 f4 f5 f6 hw3 q0 q2 hj hcap hg
      generalize lastP x.L = lq at *
      cases hd : dueB x p with
      | false =>
        have HD := Lib.hid hd
        have hdd : decide (lq + x.every ≤ p) = false := HDU.out.1 hd
        clear hd
        go_quiet (fail)
        have HM5 := Lib.hid (HMID.out.later (w' := w3.drewN nq) ⟨rfl, rfl, rfl, Nat.le_refl _, fun _ _ => rfl⟩)
        have HO5 := Lib.hid (HOFF.out.drewN nq)
        go_wp2_with fail
        go_ret
        exact GotRAdd.good HG.out HMX.out (by rw [HD.out]; rfl) (HM5.out.is H0L.out) HO5.out (fun k hk => .inl hk)
      | true =>
        have HD := Lib.hid hd
        have hdd : decide (lq + x.every ≤ p) = true := HDU.out.2 hd
        clear hd
        go_quiet (fail)
        have HM5 := Lib.hid (HMID.out.later (w' := w3.drewN nq) ⟨rfl, rfl, rfl, Nat.le_refl _, fun _ _ => rfl⟩)
        have HO5 := Lib.hid (HOFF.out.drewN nq)
        clear c0 c1 c2 c3 c4 c5 c6 f1 q1
        generalize w3.drewN nq = w5 at *
        obtain ⟨c0, c1, c2, c3, c4, c5, c6, f1, _⟩ := rx_cells (HM5.out.later (Below.refl w5.heap.size w5).drew).box
        obtain ⟨d0, d1, d2, d3, d4, d5, d6, e1, _⟩ := rx_cells (HM5.out.later ((Below.refl w5.heap.size w5).alloc (Nat.le_refl _) (.cells #[.int .i64 o, .int .i64 p, .int .i64 t] 31))).box
        simp only at c0 c1 c2 c3 c4 c6 d0 d1 d2 d3 d4 d6
        have hF := fun g cap w' hown hg => HM5.out.appended (w' := w') (g := g) (cap := cap) (e := (o, p, t)) ⟨HOP.out.1, HOP.out.2⟩ (o := .cells #[.int .i64 o, .int .i64 p, .int .i64 t] 31) hown hg
        have hrow := own_below (HM5.out.later (Below.refl w5.heap.size w5).drew).row ((Below.refl w5.drew.heap.size w5.drew).alloc (Nat.le_refl _) (.cells #[.int .i64 o, .int .i64 p, .int .i64 t] 31))
        have hnw := news_at9 (Box.new w5.drew 31 #[.int .i64 o, .int .i64 p, .int .i64 t])
        have hbw : base ≤ w5.heap.size := Nat.le_trans hbase HO5.out.size
        have h1c := rt_one o p t
        simp only at hF hrow
        have HO := Lib.hid (fun w' (h : Off (fun k => k = b ∨ blk (some ⟨g, 0, none⟩) k) w5 w') => HO5.out.trans h (fun i _ h => h))
        have HSZ := Lib.hid HO5.out.size
        obtain ⟨i0, hq, hqz, hqs, hqb⟩ := info_parts rtInfo
        have HF := Lib.hid hF
        clear hF HM5 HO5
        go_wp2_with fail
        go_region_law (refine step_append_lies (w5.alloc (.cells #[.int .i64 o, .int .i64 p, .int .i64 t] 31)).drew rfl (.tmp 102) (.tmp 110) 29 rfl base 31 i0 (.agg #[.int .i64 0, .int .i64 0, .int .i64 0]) 3 24 Try.underlying29 hq hqz hqs hqb rfl (by decide) (.slice (some ⟨g, 0, none⟩) x.L.length c) x.L.length (tldC x.L) (by simp [Act.eval]) hrow ⟨w5.heap.size, 0, none⟩ 1 1 [.int .i64 o, .int .i64 p, .int .i64 t] (by simp [Act.eval]) rfl hnw h1c (by decide) (by unfold maxLen; omega) (by omega) (by simp; omega) (w5.heap.size + 1) (by simp) ?_; intro g2 cap2 w4 hown4 hgrow4 hg4 hlt4; obtain ⟨k1, k2, k3⟩ := HF.out _ _ w4 hown4 hgrow4)
        all_goals
          have E3 := Lib.hid k3
          have G4 := Lib.hid hg4
          clear k3 hown4 hgrow4 hg4
          go_wp2_with fail
          go_ret
          exact GotRAdd.good HG.out HMX.out (by rw [HD.out]; rfl) E3.out.1 (HO.out _ E3.out.2) (fun k hk => by
            obtain ⟨a, ha, rfl⟩ := hk
            injection ha with ha
            subst ha
            rcases G4.out with h | h
            · exact .inl (own_blk h)
            · exact .inr (by have := HSZ.out; show W.heap.size ≤ g2; omega))
    · have HMX : Hid (max x.lt t = x.lt) := Lib.hid (by omega)
      have HMID : Hid (RxMid (rst W b o p) base b ⟨x.every, x.L, o, p, x.lt⟩ A c) := Lib.hid (h.mid0 o p)
      have HOFF : Hid (Off (fun k => k = b ∨ blk A k) W (rst W b o p)) := Lib.hid (rst_off W b o p (fun k => k = b ∨ blk A k) (.inl rfl))
      clear h
      obtain ⟨w3, hw3⟩ : ∃ w, rst W b o p = w := ⟨_, rfl⟩
      rw [hw3] at HMID HOFF
      have HW3 := Lib.hid hw3
      clear hw3
      go_enter Try.func11, Try.ntmps11
      go_wp2_with (first | ((with_reducible refine (co _).mono ?_); rintro en w1 ⟨rfl, hw⟩; (have hw' := hw.symm; subst hw')) | ((with_reducible refine (cp _).mono ?_); rintro en w1 ⟨rfl, hw⟩; (have hw' := hw.symm; subst hw')) | ((with_reducible refine (ct _).mono ?_); rintro en w1 ⟨rfl, hw⟩; (have hw' := hw.symm; subst hw')))
      have hw3 := HW3.out
      unfold rst at hw3
      rw [hw3]
      obtain ⟨c0, c1, c2, c3, c4, c5, c6, f1, _⟩ := rx_cells HMID.out.box
      simp only at c0 c1 c2 c3 c4 c6
      obtain ⟨g, hA, q0, q1, q2, hg, hcap⟩ := rx_entry HMID.out.row HE.out.1
      subst hA
      obtain ⟨j, hj⟩ : ∃ j, x.L.length - 1 = j := ⟨_, rfl⟩
      have n1 : (x.L.length : Int) - 1 = (j : Int) := by omega
      have j0 : (0 : Int) ≤ (j : Int) := by omega
      have j1 : (j : Int) < (x.L.length : Int) := by omega
      have g1 : IntKind.i64.wrap ((x.L.length : Int) - 1) = (j : Int) := by rw [IntWalk.i64_in _ (by omega)]; exact n1
      have g3 : IntKind.i64.wrap (j : Int) = (j : Int) := IntWalk.i64_in _ (by omega)
      have hev := HEV.out
      have hqr := HE.out.2.2
      have g2 : IntKind.i64.wrap (lastP x.L + x.every) = lastP x.L + x.every := IntWalk.i64_in _ (by omega)

      rw [← HE.out.2.1] at q1
      rw [hj] at q1
      have h0d : decide ((x.L.length : Int) = 0) = false := decide_eq_false (by omega)
      have h0e : ((x.L.length : Int) == 0) = false := by rw [beq_eq_false_iff_ne]; omega
      clear f2 f3 f4 f5 f6 hw3 q0 q2 hj hcap hg
      generalize lastP x.L = lq at *
      cases hd : dueB x p with
      | false =>
        have HD := Lib.hid hd
        have hdd : decide (lq + x.every ≤ p) = false := HDU.out.1 hd
        clear hd
        go_quiet (fail)
        have HM5 := Lib.hid (HMID.out.later (w' := w3.drewN nq) ⟨rfl, rfl, rfl, Nat.le_refl _, fun _ _ => rfl⟩)
        have HO5 := Lib.hid (HOFF.out.drewN nq)
        go_wp2_with fail
        go_ret
        exact GotRAdd.good HG.out HMX.out (by rw [HD.out]; rfl) (HM5.out.is H0L.out) HO5.out (fun k hk => .inl hk)
      | true =>
        have HD := Lib.hid hd
        have hdd : decide (lq + x.every ≤ p) = true := HDU.out.2 hd
        clear hd
        go_quiet (fail)
        have HM5 := Lib.hid (HMID.out.later (w' := w3.drewN nq) ⟨rfl, rfl, rfl, Nat.le_refl _, fun _ _ => rfl⟩)
        have HO5 := Lib.hid (HOFF.out.drewN nq)
        clear c0 c1 c2 c3 c4 c5 c6 f1 q1
        generalize w3.drewN nq = w5 at *
        obtain ⟨c0, c1, c2, c3, c4, c5, c6, f1, _⟩ := rx_cells (HM5.out.later (Below.refl w5.heap.size w5).drew).box
        obtain ⟨d0, d1, d2, d3, d4, d5, d6, e1, _⟩ := rx_cells (HM5.out.later ((Below.refl w5.heap.size w5).alloc (Nat.le_refl _) (.cells #[.int .i64 o, .int .i64 p, .int .i64 x.lt] 31))).box
        simp only at c0 c1 c2 c3 c4 c6 d0 d1 d2 d3 d4 d6
        have hF := fun g cap w' hown hg => HM5.out.appended (w' := w') (g := g) (cap := cap) (e := (o, p, x.lt)) ⟨HOP.out.1, HOP.out.2⟩ (o := .cells #[.int .i64 o, .int .i64 p, .int .i64 x.lt] 31) hown hg
        have hrow := own_below (HM5.out.later (Below.refl w5.heap.size w5).drew).row ((Below.refl w5.drew.heap.size w5.drew).alloc (Nat.le_refl _) (.cells #[.int .i64 o, .int .i64 p, .int .i64 x.lt] 31))
        have hnw := news_at9 (Box.new w5.drew 31 #[.int .i64 o, .int .i64 p, .int .i64 x.lt])
        have hbw : base ≤ w5.heap.size := Nat.le_trans hbase HO5.out.size
        have h1c := rt_one o p x.lt
        simp only at hF hrow
        have HO := Lib.hid (fun w' (h : Off (fun k => k = b ∨ blk (some ⟨g, 0, none⟩) k) w5 w') => HO5.out.trans h (fun i _ h => h))
        have HSZ := Lib.hid HO5.out.size
        obtain ⟨i0, hq, hqz, hqs, hqb⟩ := info_parts rtInfo
        have HF := Lib.hid hF
        clear hF HM5 HO5
        go_wp2_with fail
        go_region_law (refine step_append_lies (w5.alloc (.cells #[.int .i64 o, .int .i64 p, .int .i64 x.lt] 31)).drew rfl (.tmp 102) (.tmp 110) 29 rfl base 31 i0 (.agg #[.int .i64 0, .int .i64 0, .int .i64 0]) 3 24 Try.underlying29 hq hqz hqs hqb rfl (by decide) (.slice (some ⟨g, 0, none⟩) x.L.length c) x.L.length (tldC x.L) (by simp [Act.eval]) hrow ⟨w5.heap.size, 0, none⟩ 1 1 [.int .i64 o, .int .i64 p, .int .i64 x.lt] (by simp [Act.eval]) rfl hnw h1c (by decide) (by unfold maxLen; omega) (by omega) (by simp; omega) (w5.heap.size + 1) (by simp) ?_; intro g2 cap2 w4 hown4 hgrow4 hg4 hlt4; obtain ⟨k1, k2, k3⟩ := HF.out _ _ w4 hown4 hgrow4)
        all_goals
          have E3 := Lib.hid k3
          have G4 := Lib.hid hg4
          clear k3 hown4 hgrow4 hg4
          go_wp2_with fail
          go_ret
          exact GotRAdd.good HG.out HMX.out (by rw [HD.out]; rfl) E3.out.1 (HO.out _ E3.out.2) (fun k hk => by
            obtain ⟨a, ha, rfl⟩ := hk
            injection ha with ha
            subst ha
            rcases G4.out with h | h
            · exact .inl (own_blk h)
            · exact .inr (by have := HSZ.out; show W.heap.size ≤ g2; omega))
end Go.Proofs.Ytljgiabaekddlaa
