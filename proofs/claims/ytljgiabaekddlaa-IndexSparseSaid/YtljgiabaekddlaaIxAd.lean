/- index: Add. No condition but that the entries are not too many. -/
import Derived.Test.YtljgiabaekddlaaIxSk
import Derived.Deep.AppendLies
import Derived.Deep.RegionLaw
namespace Go.Proofs.Ytljgiabaekddlaa
open Go.RowKit
set_option linter.unusedVariables false
theorem run_store_complex {P : Program} {w : World} {a : Addr} {m : Mode} (k : FloatKind) (x y : Nat) : (store a (.complex k x y) m).run P w = stored P w a (.complex k x y) m := run_store P w a _ m rfl
attribute [local go_sem] run_store_complex
def Ix.ok (x : Ix) (o p t : Int) : Bool := ixo o && (ixo p && (ixo t && risesB x o p))
def Ix.add (x : Ix) (o p t : Int) : Ix := if x.ok o p t = true then ⟨x.every, if dueB x p = true then x.L ++ [(o, p, max x.lt t)] else x.L, o, p, max x.lt t⟩ else x
def Ix.addE (x : Ix) (o p t : Int) : Int := if x.ok o p t = true then 0 else 1
/-- The block of a slice. -/
def blk (A : Option Addr) (k : Nat) : Prop := ∃ a, A = some a ∧ a.block = k
def GotAdd (W : World) (base b : Nat) (x : Ix) (A : Option Addr) (o p t : Int) (en : Ending) (w' : World) : Prop :=
  ∃ (A' : Option Addr) (c' : Nat), en = .returned (.int .i64 (x.addE o p t)) ∧ IxIs w' base b (x.add o p t) A' c' ∧ Off (fun k => k = b ∨ blk A k) W w' ∧ ∀ k, blk A' k → blk A k ∨ W.heap.size ≤ k
theorem GotAdd.bad {W : World} {base b c : Nat} {x : Ix} {A : Option Addr} {o p t : Int} (h : IxIs W base b x A c) (hk : x.ok o p t = false) : GotAdd W base b x A o p t (.returned (.int .i64 1)) W := by
  unfold GotAdd Ix.add Ix.addE
  rw [hk]
  exact ⟨A, c, rfl, h, Off.refl _ _, fun k hb => .inl hb⟩
theorem news_at9 {w : World} {g : Nat} {t : TypeId} {cs : Array Value} (h : Box w g t cs) : ∀ j u, cs.toList[j]? = some u → w.cell? ((⟨g, 0, none⟩ : Addr).add j) = some u := by
  intro j u hu
  have e1 : (⟨g, 0, none⟩ : Addr).add j = ⟨g, j, none⟩ := by unfold Addr.add; split <;> simp_all
  rw [e1, h.cell j]
  simpa using hu
theorem entInfo : (Try.prog.info? 54).map (fun i => (i.zero, i.size, i.bytes)) = some (some (.agg #[.complex .f64 0 0, .int .i64 0]), 2, 24) := by kernel_rfl
theorem ent_one (z1 z2 : Nat) (t : Int) : ∀ u ∈ [Value.complex .f64 z1 z2, Value.int .i64 t], u.oneCell' = true := by
  intro u hu
  simp at hu
  rcases hu with rfl | rfl <;> rfl
theorem blk_own {w : World} {base ty size n m c : Nat} {A : Option Addr} {xs : List Value} (h : w.ownsRow base ty size (.slice A m c) n xs) {k : Nat} (hk : blk A k) : (Value.slice A m c).ownBlock = some k ∧ base ≤ k ∧ k < w.heap.size := by
  obtain ⟨a, rfl, rfl⟩ := hk
  rcases h.2 with ⟨hv, _⟩ | ⟨g, cap, cur, hv, hg, hh, _⟩
  · cases hv
  · injection hv with e1 _ _
    injection e1 with e1
    subst e1
    exact ⟨rfl, hg, lt_of_there hh⟩
theorem own_blk {A : Option Addr} {m c k : Nat} (h : (Value.slice A m c).ownBlock = some k) : blk A k := by
  cases A with
  | none => cases h
  | some a => exact ⟨a, rfl, by simpa [Value.ownBlock] using h⟩
theorem own_blk' {w : World} {base ty size n m c : Nat} {A : Option Addr} {xs : List Value} (h : w.ownsRow base ty size (.slice A m c) n xs) {k : Nat} (hk : (Value.slice A m c).ownBlock = some k) : blk A k := own_blk hk
/-- Behind the two stores. -/
theorem IxIs.stored {W : World} {base b c : Nat} {x : Ix} {A : Option Addr} (h : IxIs W base b x A c) {o p m : Int} (ho : ixo o = true) (hp : ixo p = true) :
    IxIs ((W.setCell ⟨b, 2, none⟩ (.complex .f64 (fl o) (fl p))).setCell ⟨b, 3, none⟩ (.int .i64 m)) base b ⟨x.every, x.L, o, p, m⟩ A c := by
  have hne := own_ne h.row h.box (by decide)
  have h1 := own_off h.row (Off.one W ⟨b, 2, none⟩ (.complex .f64 (fl o) (fl p))) (fun k e => hne k e)
  have hb1 : Box (W.setCell ⟨b, 2, none⟩ (.complex .f64 (fl o) (fl p))) b 49 #[.int .i64 x.every, .slice A x.L.length c, .complex .f64 (fl o) (fl p), .int .i64 x.lt] := h.box.set 2 _
  have h2 := own_off h1 (Off.one _ ⟨b, 3, none⟩ (.int .i64 m)) (fun k e => hne k e)
  exact ⟨hb1.set 3 _, h2, h.lo, h.oks, ho, hp⟩
/-- Behind an append. -/
theorem IxIs.appended {w w' : World} {base b c g cap : Nat} {x : Ix} {A : Option Addr} (h : IxIs w base b x A c) {e : En} (he : okE e) {o : Obj} (hown : w'.ownsRow base 54 2 (.slice (some ⟨g, 0, none⟩) (x.L.length + 1) cap) (x.L.length + 1) (entC x.L ++ [.complex .f64 (fl e.1) (fl e.2.1), .int .i64 e.2.2]))
    (hg : (w.drew.alloc o).grownBy w' (Value.slice A x.L.length c).ownBlock) :
    w'.cell? ⟨b, 1, none⟩ = some (.slice A x.L.length c) ∧ w'.frozen? ⟨b, 1, none⟩ = false ∧ IxIs (w'.setCell ⟨b, 1, none⟩ (.slice (some ⟨g, 0, none⟩) (x.L.length + 1) cap)) base b ⟨x.every, x.L ++ [e], x.lo, x.lp, x.lt⟩ (some ⟨g, 0, none⟩) cap ∧
      Off (fun k => k = b ∨ blk A k) w (w'.setCell ⟨b, 1, none⟩ (.slice (some ⟨g, 0, none⟩) (x.L.length + 1) cap)) := by
  have hne := own_ne h.row h.box (by decide)
  have hbA := (h.box.drew).alloc o
  have hb' : Box w' b 49 #[.int .i64 x.every, .slice A x.L.length c, .complex .f64 (fl x.lo) (fl x.lp), .int .i64 x.lt] := (hg.block b hbA.lt (fun e => hne _ e.symm rfl)).trans hbA
  have ho1 : Off (fun k => k = b ∨ blk A k) w (w.drew.alloc o) := ((Off.refl _ w).drew).alloc o
  have ho2 := ho1.grown hg (fun k e _ => .inr (own_blk e))
  refine ⟨(hb'.cell 1).trans rfl, hb'.frozen 1, ⟨?_, ?_, h.lo, ?_, h.okl⟩, ho2.set (p := ⟨b, 1, none⟩) (.inl (.inl rfl)) _⟩
  · show Box _ b _ #[.int .i64 x.every, .slice (some ⟨g, 0, none⟩) (x.L ++ [e]).length cap, .complex .f64 (fl x.lo) (fl x.lp), .int .i64 x.lt]
    rw [List.length_append]
    exact hb'.set 1 _
  · show World.ownsRow _ base _ 2 (.slice (some ⟨g, 0, none⟩) (x.L ++ [e]).length cap) (x.L ++ [e]).length (entC (x.L ++ [e]))
    rw [entC_snoc, List.length_append]
    exact own_off hown (Off.one w' ⟨b, 1, none⟩ _) (fun k e => own_ne hown hb' (by decide) k e)
  · intro y hy
    rw [List.mem_append] at hy
    rcases hy with hy | hy
    · exact h.oks y hy
    · simp at hy
      subst hy
      exact he
theorem GotAdd.good {W w' : World} {base b c' : Nat} {x : Ix} {A A' : Option Addr} {o p t m : Int} (hk : x.ok o p t = true) (hm : max x.lt t = m) {L' : List En} (hL : (if dueB x p = true then x.L ++ [(o, p, m)] else x.L) = L') (h : IxIs w' base b ⟨x.every, L', o, p, m⟩ A' c') (ho : Off (fun k => k = b ∨ blk A k) W w') (hn : ∀ k, blk A' k → blk A k ∨ W.heap.size ≤ k) :
    GotAdd W base b x A o p t (.returned (.int .i64 0)) w' := by
  unfold GotAdd Ix.add Ix.addE
  rw [if_pos hk, if_pos hk, hm, hL]
  exact ⟨A', c', rfl, h, ho, hn⟩
set_option maxHeartbeats 8000000 in
set_option maxRecDepth 100000 in
theorem add_c (x : Ix) (A : Option Addr) (c base b : Nat) (o p t : Int) (W : World) (h : IxIs W base b x A c) (hbase : base ≤ W.heap.size) (hn : x.L.length ≤ 100000) :
    Calls Try.prog 10 #[.pointer (some ⟨b, 0, none⟩), .int .i64 o, .int .i64 p, .int .i64 t] W (GotAdd W base b x A o p t) := by
  have co := fun w => within_c o w
  have cp := fun w => within_c p w
  have ct := fun w => within_c t w
  have cr := fun w hw => rises_c x A c base b o p w hw
  have HX := Lib.hid h
  cases ho : ixo o with
  | false =>
    have hbad : x.ok o p t = false := by unfold Ix.ok; rw [ho]; rfl
    rw [ho] at co
    have HB := Lib.hid hbad
    clear ho hbad h
    go_enter Try.func10, Try.ntmps10
    go_wp2_with ((with_reducible refine (co _).mono ?_); rintro en w1 ⟨rfl, hw⟩; (have hw' := hw.symm; subst hw'))
    go_ret
    exact GotAdd.bad HX.out HB.out
  | true =>
  rw [ho] at co
  cases hp : ixo p with
  | false =>
    have hbad : x.ok o p t = false := by unfold Ix.ok; rw [ho, hp]; rfl
    rw [hp] at cp
    have HB := Lib.hid hbad
    clear ho hp hbad h
    go_enter Try.func10, Try.ntmps10
    go_wp2_with (first | ((with_reducible refine (co _).mono ?_); rintro en w1 ⟨rfl, hw⟩; (have hw' := hw.symm; subst hw')) | ((with_reducible refine (cp _).mono ?_); rintro en w1 ⟨rfl, hw⟩; (have hw' := hw.symm; subst hw')))
    go_ret
    exact GotAdd.bad HX.out HB.out
  | true =>
  rw [hp] at cp
  cases ht : ixo t with
  | false =>
    have hbad : x.ok o p t = false := by unfold Ix.ok; rw [ho, hp, ht]; rfl
    rw [ht] at ct
    have HB := Lib.hid hbad
    clear ho hp ht hbad h
    go_enter Try.func10, Try.ntmps10
    go_wp2_with (first | ((with_reducible refine (co _).mono ?_); rintro en w1 ⟨rfl, hw⟩; (have hw' := hw.symm; subst hw')) | ((with_reducible refine (cp _).mono ?_); rintro en w1 ⟨rfl, hw⟩; (have hw' := hw.symm; subst hw')) | ((with_reducible refine (ct _).mono ?_); rintro en w1 ⟨rfl, hw⟩; (have hw' := hw.symm; subst hw')))
    go_ret
    exact GotAdd.bad HX.out HB.out
  | true =>
  rw [ht] at ct
  cases hr : risesB x o p with
  | false =>
    have hbad : x.ok o p t = false := by unfold Ix.ok; rw [ho, hp, ht, hr]; rfl
    rw [hr] at cr
    have HB := Lib.hid hbad
    clear ho hp ht hr hbad h
    go_enter Try.func10, Try.ntmps10
    go_wp2_with (first | ((with_reducible refine (co _).mono ?_); rintro en w1 ⟨rfl, hw⟩; (have hw' := hw.symm; subst hw')) | ((with_reducible refine (cp _).mono ?_); rintro en w1 ⟨rfl, hw⟩; (have hw' := hw.symm; subst hw')) | ((with_reducible refine (ct _).mono ?_); rintro en w1 ⟨rfl, hw⟩; (have hw' := hw.symm; subst hw')) | ((with_reducible refine (cr _ HX.out).mono ?_); rintro en w1 ⟨rfl, hw⟩; (have hw' := hw.symm; subst hw')))
    go_ret
    exact GotAdd.bad HX.out HB.out
  | true =>
  rw [hr] at cr
  have hgood : x.ok o p t = true := by unfold Ix.ok; rw [ho, hp, ht, hr]; rfl
  have HG := Lib.hid hgood
  have HOP := Lib.hid (And.intro ho hp)
  have cj := fun w => join_c o p w
  obtain ⟨c0, c1, c2, c3, f0, f1, f2, f3⟩ := h.cells
  clear ho hp ht hr hgood h
  have hsplit : x.lt < t ∨ ¬ x.lt < t := Classical.em _
  rcases hsplit with q | q
  · have HMX : Hid (max x.lt t = t) := Lib.hid (by omega)
    have cd := fun w hw => due_c ⟨x.every, x.L, o, p, t⟩ A c base b p w hw HOP.out.2 (by show x.L.length ≤ 1000000; omega)
    change ∀ w, _ → Calls _ _ _ w (Good w (.bool (dueB x p))) at cd
    have HX2 : Hid (IxIs ((W.setCell ⟨b, 2, none⟩ (.complex .f64 (fl o) (fl p))).setCell ⟨b, 3, none⟩ (.int .i64 t)) base b ⟨x.every, x.L, o, p, t⟩ A c) := Lib.hid (HX.out.stored HOP.out.1 HOP.out.2)
    have HO2 : Hid (Off (fun k => k = b ∨ blk A k) W ((W.setCell ⟨b, 2, none⟩ (.complex .f64 (fl o) (fl p))).setCell ⟨b, 3, none⟩ (.int .i64 t))) := Lib.hid (((Off.refl _ W).set (p := ⟨b, 2, none⟩) (.inl (.inl rfl)) _).set (p := ⟨b, 3, none⟩) (.inl (.inl rfl)) _)
    go_enter Try.func10, Try.ntmps10
    go_wp2_with (first | ((with_reducible refine (co _).mono ?_); rintro en w1 ⟨rfl, hw⟩; (have hw' := hw.symm; subst hw')) | ((with_reducible refine (cp _).mono ?_); rintro en w1 ⟨rfl, hw⟩; (have hw' := hw.symm; subst hw')) | ((with_reducible refine (ct _).mono ?_); rintro en w1 ⟨rfl, hw⟩; (have hw' := hw.symm; subst hw')) | ((with_reducible refine (cr _ HX.out).mono ?_); rintro en w1 ⟨rfl, hw⟩; (have hw' := hw.symm; subst hw')) | ((with_reducible refine (cj _).mono ?_); rintro en w1 ⟨rfl, hw⟩; (have hw' := hw.symm; subst hw')))
    (with_reducible refine (cd _ HX2.out).mono ?_)
    rintro en w3 ⟨rfl, hb3⟩
    have HX3 := Lib.hid (HX2.out.later hb3)
    have HO3 := Lib.hid (HO2.out.later hb3)
    clear hb3 HX2 HO2 c0 c1 c2 c3 f0 f1 f2 f3
    cases hd : dueB x p with
    | false =>
      have HD := Lib.hid hd
      clear hd
      go_wp2_with fail
      go_ret
      exact GotAdd.good HG.out HMX.out (by rw [HD.out]; rfl) HX3.out HO3.out (fun k hk => .inl hk)
    | true =>
      have HD := Lib.hid hd
      clear hd
      have hX4 := HX3.out.later (Below.refl _ w3).drew
      obtain ⟨c0, c1, c2, c3, f0, f1, f2, f3⟩ := hX4.cells
      simp only at c0 c1 c2 c3
      obtain ⟨d0, d1, d2, d3, e0, e1, e2, e3⟩ := (HX3.out.later ((Below.refl w3.heap.size w3).alloc (Nat.le_refl _) (.cells #[.complex .f64 (fl o) (fl p), .int .i64 t] 54))).cells
      simp only at d0 d1 d2 d3
      have hF := fun g cap w' hown hg => HX3.out.appended (w' := w') (g := g) (cap := cap) (e := (o, p, t)) ⟨HOP.out.1, HOP.out.2⟩ (o := .cells #[.complex .f64 (fl o) (fl p), .int .i64 t] 54) hown hg
      have hrow := own_below hX4.row ((Below.refl w3.drew.heap.size w3.drew).alloc (Nat.le_refl _) (.cells #[.complex .f64 (fl o) (fl p), .int .i64 t] 54))
      have hnw := news_at9 (Box.new w3.drew 54 #[.complex .f64 (fl o) (fl p), .int .i64 t])
      have hbw : base ≤ w3.heap.size := Nat.le_trans hbase HO3.out.size
      have h1c := ent_one (fl o) (fl p) t
      simp only at hF hrow
      have HO := Lib.hid (fun w' (h : Off (fun k => k = b ∨ blk A k) w3 w') => HO3.out.trans h (fun i _ h => h))
      have HSZ := Lib.hid HO3.out.size
      obtain ⟨i0, hq, hqz, hqs, hqb⟩ := info_parts entInfo
      clear hX4 HX3 HO3 f0 f2 f3 e0 e2 e3
      generalize fl o = zo at *
      generalize fl p = zp at *
      have HF := Lib.hid hF
      clear hF
      go_wp2_with fail
      go_region_law (refine step_append_lies (w3.alloc (.cells #[.complex .f64 zo zp, .int .i64 t] 54)).drew rfl (.tmp 55) (.tmp 65) 46 rfl base 54 i0 (.agg #[.complex .f64 0 0, .int .i64 0]) 2 24 Try.underlying46 hq hqz hqs hqb rfl (by decide) (.slice A x.L.length c) x.L.length (entC x.L) (by simp [Act.eval]) hrow ⟨w3.heap.size, 0, none⟩ 1 1 [.complex .f64 zo zp, .int .i64 t] (by simp [Act.eval]) rfl hnw h1c (by decide) (by unfold maxLen; omega) (by omega) (by simp; omega) (w3.heap.size + 1) (by simp) ?_; intro g2 cap2 w4 hown4 hgrow4 hg4 hlt4; obtain ⟨k1, k2, k3⟩ := HF.out _ _ w4 hown4 hgrow4)
      all_goals
        have E3 := Lib.hid k3
        have G4 := Lib.hid hg4
        clear k3 hown4 hgrow4 hg4
        go_wp2_with fail
        go_ret
        exact GotAdd.good HG.out HMX.out (by rw [HD.out]; rfl) E3.out.1 (HO.out _ E3.out.2) (fun k hk => by
          obtain ⟨a, ha, rfl⟩ := hk
          injection ha with ha
          subst ha
          rcases G4.out with h | h
          · exact .inl (own_blk h)
          · exact .inr (by have := HSZ.out; show W.heap.size ≤ g2; omega))
  · have HMX : Hid (max x.lt t = x.lt) := Lib.hid (by omega)
    have cd := fun w hw => due_c ⟨x.every, x.L, o, p, x.lt⟩ A c base b p w hw HOP.out.2 (by show x.L.length ≤ 1000000; omega)
    change ∀ w, _ → Calls _ _ _ w (Good w (.bool (dueB x p))) at cd
    have HX2 : Hid (IxIs ((W.setCell ⟨b, 2, none⟩ (.complex .f64 (fl o) (fl p))).setCell ⟨b, 3, none⟩ (.int .i64 x.lt)) base b ⟨x.every, x.L, o, p, x.lt⟩ A c) := Lib.hid (HX.out.stored HOP.out.1 HOP.out.2)
    have HO2 : Hid (Off (fun k => k = b ∨ blk A k) W ((W.setCell ⟨b, 2, none⟩ (.complex .f64 (fl o) (fl p))).setCell ⟨b, 3, none⟩ (.int .i64 x.lt))) := Lib.hid (((Off.refl _ W).set (p := ⟨b, 2, none⟩) (.inl (.inl rfl)) _).set (p := ⟨b, 3, none⟩) (.inl (.inl rfl)) _)
    go_enter Try.func10, Try.ntmps10
    go_wp2_with (first | ((with_reducible refine (co _).mono ?_); rintro en w1 ⟨rfl, hw⟩; (have hw' := hw.symm; subst hw')) | ((with_reducible refine (cp _).mono ?_); rintro en w1 ⟨rfl, hw⟩; (have hw' := hw.symm; subst hw')) | ((with_reducible refine (ct _).mono ?_); rintro en w1 ⟨rfl, hw⟩; (have hw' := hw.symm; subst hw')) | ((with_reducible refine (cr _ HX.out).mono ?_); rintro en w1 ⟨rfl, hw⟩; (have hw' := hw.symm; subst hw')) | ((with_reducible refine (cj _).mono ?_); rintro en w1 ⟨rfl, hw⟩; (have hw' := hw.symm; subst hw')))
    (with_reducible refine (cd _ HX2.out).mono ?_)
    rintro en w3 ⟨rfl, hb3⟩
    have HX3 := Lib.hid (HX2.out.later hb3)
    have HO3 := Lib.hid (HO2.out.later hb3)
    clear hb3 HX2 HO2 c0 c1 c2 c3 f0 f1 f2 f3
    cases hd : dueB x p with
    | false =>
      have HD := Lib.hid hd
      clear hd
      go_wp2_with fail
      go_ret
      exact GotAdd.good HG.out HMX.out (by rw [HD.out]; rfl) HX3.out HO3.out (fun k hk => .inl hk)
    | true =>
      have HD := Lib.hid hd
      clear hd
      have hX4 := HX3.out.later (Below.refl _ w3).drew
      obtain ⟨c0, c1, c2, c3, f0, f1, f2, f3⟩ := hX4.cells
      simp only at c0 c1 c2 c3
      obtain ⟨d0, d1, d2, d3, e0, e1, e2, e3⟩ := (HX3.out.later ((Below.refl w3.heap.size w3).alloc (Nat.le_refl _) (.cells #[.complex .f64 (fl o) (fl p), .int .i64 x.lt] 54))).cells
      simp only at d0 d1 d2 d3
      have hF := fun g cap w' hown hg => HX3.out.appended (w' := w') (g := g) (cap := cap) (e := (o, p, x.lt)) ⟨HOP.out.1, HOP.out.2⟩ (o := .cells #[.complex .f64 (fl o) (fl p), .int .i64 x.lt] 54) hown hg
      have hrow := own_below hX4.row ((Below.refl w3.drew.heap.size w3.drew).alloc (Nat.le_refl _) (.cells #[.complex .f64 (fl o) (fl p), .int .i64 x.lt] 54))
      have hnw := news_at9 (Box.new w3.drew 54 #[.complex .f64 (fl o) (fl p), .int .i64 x.lt])
      have hbw : base ≤ w3.heap.size := Nat.le_trans hbase HO3.out.size
      have h1c := ent_one (fl o) (fl p) x.lt
      simp only at hF hrow
      have HO := Lib.hid (fun w' (h : Off (fun k => k = b ∨ blk A k) w3 w') => HO3.out.trans h (fun i _ h => h))
      have HSZ := Lib.hid HO3.out.size
      obtain ⟨i0, hq, hqz, hqs, hqb⟩ := info_parts entInfo
      clear hX4 HX3 HO3 f0 f2 f3 e0 e2 e3
      generalize fl o = zo at *
      generalize fl p = zp at *
      have HF := Lib.hid hF
      clear hF
      go_wp2_with fail
      go_region_law (refine step_append_lies (w3.alloc (.cells #[.complex .f64 zo zp, .int .i64 x.lt] 54)).drew rfl (.tmp 55) (.tmp 65) 46 rfl base 54 i0 (.agg #[.complex .f64 0 0, .int .i64 0]) 2 24 Try.underlying46 hq hqz hqs hqb rfl (by decide) (.slice A x.L.length c) x.L.length (entC x.L) (by simp [Act.eval]) hrow ⟨w3.heap.size, 0, none⟩ 1 1 [.complex .f64 zo zp, .int .i64 x.lt] (by simp [Act.eval]) rfl hnw h1c (by decide) (by unfold maxLen; omega) (by omega) (by simp; omega) (w3.heap.size + 1) (by simp) ?_; intro g2 cap2 w4 hown4 hgrow4 hg4 hlt4; obtain ⟨k1, k2, k3⟩ := HF.out _ _ w4 hown4 hgrow4)
      all_goals
        have E3 := Lib.hid k3
        have G4 := Lib.hid hg4
        clear k3 hown4 hgrow4 hg4
        go_wp2_with fail
        go_ret
        exact GotAdd.good HG.out HMX.out (by rw [HD.out]; rfl) E3.out.1 (HO.out _ E3.out.2) (fun k hk => by
          obtain ⟨a, ha, rfl⟩ := hk
          injection ha with ha
          subst ha
          rcases G4.out with h | h
          · exact .inl (own_blk h)
          · exact .inr (by have := HSZ.out; show W.heap.size ≤ g2; omega))
end Go.Proofs.Ytljgiabaekddlaa
