/- idem: Note, by a contract: the walk. No condition. -/
import Derived.Test.YtdhakekndinbeaaImNote
namespace Go.Proofs.Ytdhakekndinbeaa
open Go.RowKit
set_option linter.unusedVariables false
theorem zero_ok : okN (0, 0, 0) := ⟨by decide, by decide, by decide, by decide⟩
def zC (e : Int) : Array Value := #[.int .i64 e, .int .i64 0, .int .i64 0, .int .i64 0, .int .i64 0, .int .i64 0, .int .i64 0, .int .i64 0, .int .i64 0, .int .i64 0, .int .i64 0, .int .i64 0, .int .i64 0, .int .i64 0, .int .i64 0, .int .i64 0, .int .i64 0, .int .i64 0]
/-- What a Note leaves. -/
def Noted (W : World) (p : Nat) (m : Option Nat) (F : List HE) (b : BN) (e : Ending) (w' : World) : Prop :=
  e = .returned (.tuple #[]) ∧ ∃ m' F', PdIs w' p m' F' ∧ absF F' = noteG (absF F) b ∧ Off (fun k => k = p ∨ m = some k ∨ ∃ h ∈ F, k = h.blk) W w' ∧ F'.length ≤ F.length + 1 ∧ (∀ k, m' = some k → m = some k ∨ W.heap.size ≤ k) ∧ ∀ y ∈ F', (∃ h ∈ F, y.blk = h.blk) ∨ W.heap.size ≤ y.blk
theorem bnB_of {b : BN} (h : bnB b = true) : (0 ≤ b.prod ∧ b.prod ≤ 1073741824) ∧ (0 ≤ b.epoch ∧ b.epoch ≤ 32768) ∧ (0 ≤ b.seq ∧ b.seq ≤ 1073741824) ∧ (1 ≤ b.span ∧ b.span ≤ 50) ∧ (0 ≤ b.base ∧ b.base ≤ 1099511627776) := by
  unfold bnB witB at h
  simp only [Bool.and_eq_true, decide_eq_true_eq] at h
  exact h
theorem updW_ok {R : Nat → SN} {k : Nat} {s : SN} (hR : ∀ k, k < 5 → okN (R k)) (hs : okN s) : ∀ i, i < 5 → okN (updW R k s i) := fun i hi => by
  unfold updW
  split
  · exact hs
  · exact hR i hi
theorem more_ins {n e : Int} {s : SN} : ∀ {G : List GH}, (∀ y ∈ G, y.1 ≠ n) → moreG n s (insG (n, e, []) G) = insG (n, e, [s]) G
  | [], _ => by
    unfold moreG insG addL
    simp
  | y :: r, h => by
    have hy := h y (by simp)
    have hr : ∀ z ∈ r, z.1 ≠ n := fun z hz => h z (List.mem_cons_of_mem _ hz)
    have same : ∀ {G : List GH}, (∀ y ∈ G, y.1 ≠ n) → moreG n s G = G := fun {G} hG => by
      unfold moreG
      conv => rhs; rw [← List.map_id G]
      exact List.map_congr_left fun z hz => by rw [if_neg (hG z hz)]; rfl
    unfold insG
    by_cases hlt : n < y.1
    · rw [if_pos hlt, if_pos hlt]
      have : moreG n s ((n, e, []) :: y :: r) = (n, e, addL [] s) :: moreG n s (y :: r) := by
        unfold moreG
        rw [List.map_cons, if_pos rfl]
      rw [this, same h]
      rfl
    · rw [if_neg hlt, if_neg hlt]
      have : moreG n s (y :: insG (n, e, []) r) = y :: moreG n s (insG (n, e, []) r) := by
        unfold moreG
        rw [List.map_cons, if_neg hy]
      rw [this, more_ins hr]
theorem more_put {n e : Int} {s : SN} (G : List GH) : moreG n s (putG (n, e, []) G) = putG (n, e, [s]) G := by
  unfold putG
  exact more_ins fun y hy => by
    have := (List.mem_filter.1 hy).2
    simpa using this
theorem c3_off {w w' : World} {bx k : Nat} {u v x : Value} (h : w.cell? ⟨bx, 4, none⟩ = some u ∧ w.cell? ⟨bx, 0, none⟩ = some v ∧ w.cell? ⟨bx, 1, none⟩ = some x ∧ bx < w.heap.size) (ho : Off (· = k) w w') (hne : bx ≠ k) :
    w'.cell? ⟨bx, 4, none⟩ = some u ∧ w'.cell? ⟨bx, 0, none⟩ = some v ∧ w'.cell? ⟨bx, 1, none⟩ = some x ∧ bx < w'.heap.size :=
  ⟨(ho.cell (p := ⟨bx, 4, none⟩) h.2.2.2 hne).trans h.1, (ho.cell (p := ⟨bx, 0, none⟩) h.2.2.2 hne).trans h.2.1, (ho.cell (p := ⟨bx, 1, none⟩) h.2.2.2 hne).trans h.2.2.1, Nat.lt_of_lt_of_le h.2.2.2 ho.size⟩
theorem PdIs.uniq {w : World} {p : Nat} {m : Option Nat} {F : List HE} {x y : HE} (h : PdIs w p m F) (hx : x ∈ F) (hy : y ∈ F) (e : y.id = x.id) : y = x := by
  obtain ⟨i, hi⟩ := List.getElem_of_mem hx
  obtain ⟨j, hj⟩ := List.getElem_of_mem hy
  obtain ⟨hil, hi⟩ := hi
  obtain ⟨hjl, hj⟩ := hj
  have hr := List.pairwise_iff_getElem.1 h.rise
  rcases Nat.lt_trichotomy i j with hlt | hlt | hlt
  · have := hr i j hil hjl hlt
    rw [hi, hj] at this; omega
  · subst hlt
    exact hj.symm.trans hi
  · have := hr j i hjl hil hlt
    rw [hi, hj] at this; omega
/-- The ring of one that is new. -/
def zeroR : Nat → SN := fun _ => (0, 0, 0)
theorem note_nil (b : BN) (A : Option Addr) (n c : Nat) (W : World) : Calls Try.prog 12 #[.pointer none, bnV b A n c] W (Good W (.tuple #[])) := by
  unfold bnV bnC
  go_enter Try.func12, Try.ntmps12
  go_wp2
  go_end0
  exact ⟨rfl, (Below.refl _ _).alloc (Nat.le_refl _) _⟩
theorem new_map {W wb : World} {o : Obj} {m : Option Nat} {g : Nat} (h : m = some g ∨ (wb.alloc o).heap.size ≤ g) (hz : W.heap.size ≤ wb.heap.size) : ∀ k, some g = some k → m = some k ∨ W.heap.size ≤ k := by
  intro k hk
  injection hk with hk
  subst hk
  rcases h with h | h
  · exact .inl h
  · rw [World.size_alloc] at h
    exact .inr (by omega)
theorem new_blk {W : World} {x : HE} {s : SN} {F : List HE} (hz : W.heap.size ≤ x.blk) : ∀ y ∈ chgF (x.more s) (putF x F), (∃ h ∈ F, y.blk = h.blk) ∨ W.heap.size ≤ y.blk := by
  intro y hy
  rcases chgF_mem hy with rfl | ⟨hy, _⟩
  · exact .inr hz
  · rcases putF_mem.1 hy with rfl | ⟨hy, _⟩
    · exact .inr hz
    · exact .inl ⟨y, hy, rfl⟩
theorem same_blk {W : World} {x : HE} {s : SN} {F : List HE} (hx : x ∈ F) : ∀ y ∈ chgF (x.more s) F, (∃ h ∈ F, y.blk = h.blk) ∨ W.heap.size ≤ y.blk := by
  intro y hy
  rcases chgF_mem hy with rfl | ⟨hy, _⟩
  · exact .inl ⟨x, hx, rfl⟩
  · exact .inl ⟨y, hy, rfl⟩
set_option maxHeartbeats 16000000 in
set_option maxRecDepth 100000 in
theorem note_c (p : Nat) (m : Option Nat) (F : List HE) (b : BN) (A : Option Addr) (n c : Nat) (W : World) (h : PdIs W p m F) (hl : F.length ≤ 100000) : Calls Try.prog 12 #[dp p, bnV b A n c] W (Noted W p m F b) := by
  have hB : Below W.heap.size W (W.alloc (.cells #[.int .i64 b.base, .int .i64 b.span, .int .i64 b.prod, .int .i64 b.epoch, .int .i64 b.seq, .slice A n c] 31)) := (Below.refl _ _).alloc (Nat.le_refl _) _
  have HX := Lib.hid (Box.new W 31 #[.int .i64 b.base, .int .i64 b.span, .int .i64 b.prod, .int .i64 b.epoch, .int .i64 b.seq, .slice A n c])
  have H0 := Lib.hid (h.later hB)
  have HB := Lib.hid hB
  have cm := fun w => mayBe_c b A n c w
  have hcs := fun (w : World) (h : Box w W.heap.size 31 #[.int .i64 b.base, .int .i64 b.span, .int .i64 b.prod, .int .i64 b.epoch, .int .i64 b.seq, .slice A n c]) => And.intro ((h.cell 0).trans (show _ = some (Value.int .i64 b.base) from rfl)) (And.intro ((h.cell 1).trans (show _ = some (Value.int .i64 b.span) from rfl)) (And.intro ((h.cell 2).trans (show _ = some (Value.int .i64 b.prod) from rfl)) (And.intro ((h.cell 3).trans (show _ = some (Value.int .i64 b.epoch) from rfl)) (And.intro ((h.cell 4).trans (show _ = some (Value.int .i64 b.seq) from rfl)) ((h.cell 5).trans (show _ = some (Value.slice A n c) from rfl))))))
  have hH := h
  clear h hB
  cases hb : bnB b with
  | false =>
    rw [hb] at cm
    have HN : Hid (noteG (absF F) b = absF F) := Lib.hid (by unfold noteG; rw [hb]; rfl)
    clear hb hcs
    unfold bnV bnC dp at *
    go_enter Try.func12, Try.ntmps12
    go_wp2_with fail
    with_reducible refine (cm _).mono ?_
    rintro en w1 ⟨rfl, hb1⟩
    have HB1 := Lib.hid (HB.out.trans (hb1.mono HB.out.size))
    go_wp2_with fail
    go_end0
    exact ⟨rfl, m, F, H0.out.later hb1, HN.out.symm, Off.of_below _ HB1.out, by omega, fun k hk => .inl hk, fun y hy => .inl ⟨y, hy, rfl⟩⟩
  | true =>
    rw [hb] at cm
    obtain ⟨b1, b2, b3, b4, b5⟩ := bnB_of hb
    have hpi : i64B b.prod := by unfold i64B; omega
    have hsn : okN (b.seq, b.base, b.span) := ⟨b3.1, b3.2, by show 0 ≤ b.span; omega, b4.2⟩
    have cf := fun w (h : PdIs w p m F) => find_c p m F b.prod w h hpi
    have hfa := abs_find F b.prod
    have HNG : Hid (noteG (absF F) b = match findG (absF F) b.prod with
        | none => putG (b.prod, b.epoch, [(b.seq, b.base, b.span)]) (absF F)
        | some y => if b.epoch < y.2.1 then absF F else if y.2.1 < b.epoch then putG (b.prod, b.epoch, [(b.seq, b.base, b.span)]) (absF F) else moreG b.prod (b.seq, b.base, b.span) (absF F)) := Lib.hid (by unfold noteG; rw [hb]; rfl)
    rw [hfa] at HNG
    clear hb hfa
    unfold bnV bnC at *
    unfold dp at cf ⊢
    cases hf : ofId F b.prod with
    | none =>
      rw [hf] at HNG cf
      have HN : Hid (noteG (absF F) b = putG (b.prod, b.epoch, [(b.seq, b.base, b.span)]) (absF F)) := Lib.hid HNG.out
      unfold ptrH at cf
      clear HNG hf
      go_enter Try.func12, Try.ntmps12
      go_wp2_with fail
      with_reducible refine (cm _).mono ?_
      rintro en w1 ⟨rfl, hb1⟩
      have HB1 := Lib.hid (HB.out.trans (hb1.mono HB.out.size))
      have H1 := Lib.hid (H0.out.later hb1)
      have HX1 := Lib.hid (HX.out.later hb1)
      obtain ⟨z0, z1, z2, z3, z4, z5⟩ := hcs _ HX1.out
      clear hb1 cm H0 HX
      go_wp2_with fail
      with_reducible refine (cf _ H1.out).mono ?_
      rintro en w2 ⟨rfl, hw⟩
      have hw' := hw.symm
      subst hw'
      go_wp2_with fail
      go_quiet (fail)
      have hq1 := below_drewN (Below.refl w1.heap.size w1) nq
      generalize w1.drewN nq = wa at *
      have HBa := Lib.hid (HB1.out.trans (hq1.mono HB1.out.size))
      have HXa := Lib.hid (HX1.out.later hq1)
      have Ha := Lib.hid (H1.out.later hq1)
      clear hq1 z0 z1 z2 z3 z4 z5 HB1 HX1 H1
      obtain ⟨z0, z1, z2, z3, z4, z5⟩ := hcs _ HXa.out
      go_wp2_with fail
      go_quiet (fail)
      have hq1 := below_drewN (Below.refl wa.heap.size wa) nq
      generalize wa.drewN nq = wb at *
      have HBb := Lib.hid (HBa.out.trans (hq1.mono HBa.out.size))
      have HXb := Lib.hid (HXa.out.later hq1)
      have Hb := Lib.hid (Ha.out.later hq1)
      clear hq1 z0 z1 z2 z3 z4 z5 HBa HXa Ha
      obtain ⟨z0, z1, z2, z3, z4, z5⟩ := hcs _ HXb.out
      have hBn : Below wb.heap.size wb (wb.alloc (.cells (prC b.epoch zeroR 0 0) 67)) := (Below.refl _ _).alloc (Nat.le_refl _) _
      have HPn : Hid (PrIs (wb.alloc (.cells (prC b.epoch zeroR 0 0) 67)) wb.heap.size b.epoch zeroR 0 0) := Lib.hid ⟨Box.new _ _ _, by decide, by decide⟩
      have HWn := Lib.hid (HBb.out.trans (hBn.mono HBb.out.size))
      have Hn := Lib.hid (Hb.out.later hBn)
      have HXn := Lib.hid (HXb.out.later hBn)
      have HEn : Hid (HeIn (wb.alloc (.cells (prC b.epoch zeroR 0 0) 67)) ⟨b.prod, wb.heap.size, b.epoch, zeroR, 0, 0⟩) := Lib.hid ⟨HPn.out, fun k _ => zero_ok, b1⟩
      have cp := iput_c p m F ⟨b.prod, wb.heap.size, b.epoch, zeroR, 0, 0⟩ _ Hn.out HEn.out (fun y hy _ => Nat.ne_of_lt (Hb.out.all y hy).pr.box.lt) (by omega)
      have HLn : Hid (W.heap.size ≤ wb.heap.size) := Lib.hid HBb.out.size
      have hblt := HXb.out.lt
      have hzz := hcs _ HXn.out
      rw [show prC b.epoch zeroR 0 0 = zC b.epoch from rfl] at hzz
      unfold zC at hzz
      obtain ⟨v0, v1, v2, v3, v4, v5⟩ := hzz
      unfold dp at cp
      rw [show prC b.epoch zeroR 0 0 = zC b.epoch from rfl] at cp
      unfold zC at cp
      simp only at cp
      clear hBn Hb HXb HBb
      go_wp2_with fail
      with_reducible refine cp.mono ?_
      rintro en w3 ⟨rfl, g, hP3, ho3, hg3⟩
      have H3 := Lib.hid hP3
      have HO3 := Lib.hid ho3
      have HM := Hn.out.map
      have hxp := box_ne HXn.out Hn.out.box (by decide)
      have hxm : ∀ k, m = some k → W.heap.size ≠ k := fun k e => by
        rcases HM with ⟨h1, _⟩ | ⟨g', h1, h2⟩
        · rw [h1] at e; cases e
        · rw [h1] at e
          injection e with e
          rw [← e]
          exact box_ne_map HXn.out h2
      have HX3 := Lib.hid (HXn.out.off ho3 (fun hh => hh.elim hxp (fun e => hxm _ e rfl)))
      have hx3 : (⟨b.prod, wb.heap.size, b.epoch, zeroR, 0, 0⟩ : HE) ∈ putF ⟨b.prod, wb.heap.size, b.epoch, zeroR, 0, 0⟩ F := putF_mem.2 (.inl rfl)
      have ca := fun w (h : PrIs w wb.heap.size b.epoch zeroR 0 0) => add_c wb.heap.size b.epoch zeroR 0 0 (b.seq, b.base, b.span) w h
      obtain ⟨z0, z1, z2, z3, z4, z5⟩ := hcs _ HX3.out
      have HE3 := Lib.hid (hP3.all _ hx3)
      have hS3 := And.intro z4 (And.intro z0 (And.intro z1 HX3.out.lt))
      have hne : W.heap.size ≠ wb.heap.size := Nat.ne_of_lt hblt
      have ca3 := ca (w3.drew) (HE3.out.pr.later ((Below.refl _ _).drew))
      unfold snV at ca3
      have hHlen := putF_len ⟨b.prod, wb.heap.size, b.epoch, zeroR, 0, 0⟩ F
      have habs : absF (chgF (HE.more ⟨b.prod, wb.heap.size, b.epoch, zeroR, 0, 0⟩ (b.seq, b.base, b.span)) (putF ⟨b.prod, wb.heap.size, b.epoch, zeroR, 0, 0⟩ F)) = putG (b.prod, b.epoch, [(b.seq, b.base, b.span)]) (absF F) := by
        rw [abs_chg (fun y hy hyi => by
          rcases putF_mem.1 hy with h | ⟨_, h⟩
          · exact h
          · exact absurd hyi h) (by show 0 < 5; decide) (by show 0 ≤ 5; decide), abs_put]
        exact more_put _
      have HAB := Lib.hid (habs.trans HN.out.symm)
      have HLE : Hid ((chgF (HE.more ⟨b.prod, wb.heap.size, b.epoch, zeroR, 0, 0⟩ (b.seq, b.base, b.span)) (putF ⟨b.prod, wb.heap.size, b.epoch, zeroR, 0, 0⟩ F)).length ≤ F.length + 1) := Lib.hid (by unfold chgF; rw [List.length_map]; exact hHlen)
      clear habs hHlen hP3 ho3 HM hxm hxp z0 z1 z2 z3 z4 z5 cp ca
      go_wp2_with fail
      go_region_held3 (fun w => w.cell? ⟨W.heap.size, 4, none⟩ = some (.int .i64 b.seq) ∧ w.cell? ⟨W.heap.size, 0, none⟩ = some (.int .i64 b.base) ∧ w.cell? ⟨W.heap.size, 1, none⟩ = some (.int .i64 b.span) ∧ W.heap.size < w.heap.size) (first | exact hS3 | exact c3_off (k := wb.heap.size) hS3 hoA hne)
        (first | ((with_reducible refine ca3.mono ?_); rintro en w4 ⟨rfl, hpr4, ho4⟩; have hoA : Off (· = wb.heap.size) w3 w4 := (Off.refl _ w3).drew.trans ho4 (fun _ _ h => h)))
      all_goals
        go_wp2_with fail
        go_end0
        refine ⟨rfl, some g, _, PdIs.chg (x := HE.more ⟨b.prod, wb.heap.size, b.epoch, zeroR, 0, 0⟩ (b.seq, b.base, b.span)) H3.out hx3 rfl rfl ⟨hpr4, updW_ok (fun k _ => zero_ok) hsn, b1⟩ hoA, HAB.out, ?_, HLE.out, new_map hg3 HLn.out, new_blk HLn.out⟩
        have hW3 : Off (fun k => k = p ∨ m = some k) W w3 := (Off.of_below (fun k => k = p ∨ m = some k) HWn.out).trans HO3.out (fun i hi h => h)
        exact (hW3.mono (fun i _ h => h.elim .inl (fun h => .inr (.inl h)))).trans hoA (fun i hi e => by have := HLn.out; omega)
    | some x =>
      rw [hf] at HNG cf
      obtain ⟨hxm, hxi⟩ := ofId_mem hf
      have HNG2 : Hid (noteG (absF F) b = if b.epoch < x.e then absF F else if x.e < b.epoch then putG (b.prod, b.epoch, [(b.seq, b.base, b.span)]) (absF F) else moreG b.prod (b.seq, b.base, b.span) (absF F)) := Lib.hid HNG.out
      unfold ptrH at cf
      clear HNG hf
      by_cases he : b.epoch < x.e
      · have HN : Hid (noteG (absF F) b = absF F) := Lib.hid (by rw [HNG2.out, if_pos he])
        go_enter Try.func12, Try.ntmps12
        go_wp2_with fail
        with_reducible refine (cm _).mono ?_
        rintro en w1 ⟨rfl, hb1⟩
        have HB1 := Lib.hid (HB.out.trans (hb1.mono HB.out.size))
        have H1 := Lib.hid (H0.out.later hb1)
        obtain ⟨z0, z1, z2, z3, z4, z5⟩ := hcs _ (HX.out.later hb1)
        obtain ⟨x0, _⟩ := (H1.out.all x hxm).pr.cells
        clear hb1 cm hcs H0
        go_wp2_with fail
        with_reducible refine (cf _ H1.out).mono ?_
        rintro en w2 ⟨rfl, hw⟩
        have hw' := hw.symm
        subst hw'
        go_wp2_with fail
        go_quiet (fail)
        go_wp2_with fail
        go_end0
        exact ⟨rfl, m, F, H1.out.later (below_drewN (Below.refl _ _) _), HN.out.symm, Off.of_below _ (below_drewN HB1.out _), by omega, fun k hk => .inl hk, fun y hy => .inl ⟨y, hy, rfl⟩⟩
      · by_cases hg : x.e < b.epoch
        · have HN : Hid (noteG (absF F) b = putG (b.prod, b.epoch, [(b.seq, b.base, b.span)]) (absF F)) := Lib.hid (by rw [HNG2.out, if_neg he, if_pos hg])
          clear HNG2
          go_enter Try.func12, Try.ntmps12
          go_wp2_with fail
          with_reducible refine (cm _).mono ?_
          rintro en w1 ⟨rfl, hb1⟩
          have HB1 := Lib.hid (HB.out.trans (hb1.mono HB.out.size))
          have H1 := Lib.hid (H0.out.later hb1)
          have HX1 := Lib.hid (HX.out.later hb1)
          obtain ⟨z0, z1, z2, z3, z4, z5⟩ := hcs _ HX1.out
          obtain ⟨x0, _⟩ := (H1.out.all x hxm).pr.cells
          clear hb1 cm H0 HX
          go_wp2_with fail
          with_reducible refine (cf _ H1.out).mono ?_
          rintro en w2 ⟨rfl, hw⟩
          have hw' := hw.symm
          subst hw'
          go_wp2_with fail
          go_quiet (fail)
          have hq1 := below_drewN (Below.refl w1.heap.size w1) nq
          generalize w1.drewN nq = wa at *
          have HBa := Lib.hid (HB1.out.trans (hq1.mono HB1.out.size))
          have HXa := Lib.hid (HX1.out.later hq1)
          have Ha := Lib.hid (H1.out.later hq1)
          clear hq1 z0 z1 z2 z3 z4 z5 x0 HB1 HX1 H1
          obtain ⟨x0, _⟩ := (Ha.out.all x hxm).pr.cells
          obtain ⟨z0, z1, z2, z3, z4, z5⟩ := hcs _ HXa.out
          go_wp2_with fail
          go_quiet (fail)
          have hq1 := below_drewN (Below.refl wa.heap.size wa) nq
          generalize wa.drewN nq = wb at *
          have HBb := Lib.hid (HBa.out.trans (hq1.mono HBa.out.size))
          have HXb := Lib.hid (HXa.out.later hq1)
          have Hb := Lib.hid (Ha.out.later hq1)
          clear hq1 z0 z1 z2 z3 z4 z5 x0 HBa HXa Ha
          obtain ⟨z0, z1, z2, z3, z4, z5⟩ := hcs _ HXb.out
          have hBn : Below wb.heap.size wb (wb.alloc (.cells (prC b.epoch zeroR 0 0) 67)) := (Below.refl _ _).alloc (Nat.le_refl _) _
          have HPn : Hid (PrIs (wb.alloc (.cells (prC b.epoch zeroR 0 0) 67)) wb.heap.size b.epoch zeroR 0 0) := Lib.hid ⟨Box.new _ _ _, by decide, by decide⟩
          have HWn := Lib.hid (HBb.out.trans (hBn.mono HBb.out.size))
          have Hn := Lib.hid (Hb.out.later hBn)
          have HXn := Lib.hid (HXb.out.later hBn)
          have HEn : Hid (HeIn (wb.alloc (.cells (prC b.epoch zeroR 0 0) 67)) ⟨b.prod, wb.heap.size, b.epoch, zeroR, 0, 0⟩) := Lib.hid ⟨HPn.out, fun k _ => zero_ok, b1⟩
          have cp := iput_c p m F ⟨b.prod, wb.heap.size, b.epoch, zeroR, 0, 0⟩ _ Hn.out HEn.out (fun y hy _ => Nat.ne_of_lt (Hb.out.all y hy).pr.box.lt) (by omega)
          have HLn : Hid (W.heap.size ≤ wb.heap.size) := Lib.hid HBb.out.size
          have hblt := HXb.out.lt
          have hzz := hcs _ HXn.out
          rw [show prC b.epoch zeroR 0 0 = zC b.epoch from rfl] at hzz
          unfold zC at hzz
          obtain ⟨v0, v1, v2, v3, v4, v5⟩ := hzz
          unfold dp at cp
          rw [show prC b.epoch zeroR 0 0 = zC b.epoch from rfl] at cp
          unfold zC at cp
          simp only at cp
          clear hBn Hb HXb HBb
          go_wp2_with fail
          with_reducible refine cp.mono ?_
          rintro en w3 ⟨rfl, g, hP3, ho3, hg3⟩
          have H3 := Lib.hid hP3
          have HO3 := Lib.hid ho3
          have HM := Hn.out.map
          have hxp := box_ne HXn.out Hn.out.box (by decide)
          have hxm : ∀ k, m = some k → W.heap.size ≠ k := fun k e => by
            rcases HM with ⟨h1, _⟩ | ⟨g', h1, h2⟩
            · rw [h1] at e; cases e
            · rw [h1] at e
              injection e with e
              rw [← e]
              exact box_ne_map HXn.out h2
          have HX3 := Lib.hid (HXn.out.off ho3 (fun hh => hh.elim hxp (fun e => hxm _ e rfl)))
          have hx3 : (⟨b.prod, wb.heap.size, b.epoch, zeroR, 0, 0⟩ : HE) ∈ putF ⟨b.prod, wb.heap.size, b.epoch, zeroR, 0, 0⟩ F := putF_mem.2 (.inl rfl)
          have ca := fun w (h : PrIs w wb.heap.size b.epoch zeroR 0 0) => add_c wb.heap.size b.epoch zeroR 0 0 (b.seq, b.base, b.span) w h
          obtain ⟨z0, z1, z2, z3, z4, z5⟩ := hcs _ HX3.out
          have HE3 := Lib.hid (hP3.all _ hx3)
          have hS3 := And.intro z4 (And.intro z0 (And.intro z1 HX3.out.lt))
          have hne : W.heap.size ≠ wb.heap.size := Nat.ne_of_lt hblt
          have ca3 := ca (w3.drew) (HE3.out.pr.later ((Below.refl _ _).drew))
          unfold snV at ca3
          have hHlen := putF_len ⟨b.prod, wb.heap.size, b.epoch, zeroR, 0, 0⟩ F
          have habs : absF (chgF (HE.more ⟨b.prod, wb.heap.size, b.epoch, zeroR, 0, 0⟩ (b.seq, b.base, b.span)) (putF ⟨b.prod, wb.heap.size, b.epoch, zeroR, 0, 0⟩ F)) = putG (b.prod, b.epoch, [(b.seq, b.base, b.span)]) (absF F) := by
            rw [abs_chg (fun y hy hyi => by
              rcases putF_mem.1 hy with h | ⟨_, h⟩
              · exact h
              · exact absurd hyi h) (by show 0 < 5; decide) (by show 0 ≤ 5; decide), abs_put]
            exact more_put _
          have HAB := Lib.hid (habs.trans HN.out.symm)
          have HLE : Hid ((chgF (HE.more ⟨b.prod, wb.heap.size, b.epoch, zeroR, 0, 0⟩ (b.seq, b.base, b.span)) (putF ⟨b.prod, wb.heap.size, b.epoch, zeroR, 0, 0⟩ F)).length ≤ F.length + 1) := Lib.hid (by unfold chgF; rw [List.length_map]; exact hHlen)
          clear habs hHlen hP3 ho3 HM hxm hxp z0 z1 z2 z3 z4 z5 cp ca
          go_wp2_with fail
          go_region_held3 (fun w => w.cell? ⟨W.heap.size, 4, none⟩ = some (.int .i64 b.seq) ∧ w.cell? ⟨W.heap.size, 0, none⟩ = some (.int .i64 b.base) ∧ w.cell? ⟨W.heap.size, 1, none⟩ = some (.int .i64 b.span) ∧ W.heap.size < w.heap.size) (first | exact hS3 | exact c3_off (k := wb.heap.size) hS3 hoA hne)
            (first | ((with_reducible refine ca3.mono ?_); rintro en w4 ⟨rfl, hpr4, ho4⟩; have hoA : Off (· = wb.heap.size) w3 w4 := (Off.refl _ w3).drew.trans ho4 (fun _ _ h => h)))
          all_goals
            go_wp2_with fail
            go_end0
            refine ⟨rfl, some g, _, PdIs.chg (x := HE.more ⟨b.prod, wb.heap.size, b.epoch, zeroR, 0, 0⟩ (b.seq, b.base, b.span)) H3.out hx3 rfl rfl ⟨hpr4, updW_ok (fun k _ => zero_ok) hsn, b1⟩ hoA, HAB.out, ?_, HLE.out, new_map hg3 HLn.out, new_blk HLn.out⟩
            have hW3 : Off (fun k => k = p ∨ m = some k) W w3 := (Off.of_below (fun k => k = p ∨ m = some k) HWn.out).trans HO3.out (fun i hi h => h)
            exact (hW3.mono (fun i _ h => h.elim .inl (fun h => .inr (.inl h)))).trans hoA (fun i hi e => by have := HLn.out; omega)
        · have HN : Hid (noteG (absF F) b = moreG b.prod (b.seq, b.base, b.span) (absF F)) := Lib.hid (by rw [HNG2.out, if_neg he, if_neg hg])
          clear HNG2
          go_enter Try.func12, Try.ntmps12
          go_wp2_with fail
          with_reducible refine (cm _).mono ?_
          rintro en w1 ⟨rfl, hb1⟩
          have HB1 := Lib.hid (HB.out.trans (hb1.mono HB.out.size))
          have H1 := Lib.hid (H0.out.later hb1)
          have HX1 := Lib.hid (HX.out.later hb1)
          obtain ⟨z0, z1, z2, z3, z4, z5⟩ := hcs _ HX1.out
          obtain ⟨x0, _⟩ := (H1.out.all x hxm).pr.cells
          clear hb1 cm H0 HX
          go_wp2_with fail
          with_reducible refine (cf _ H1.out).mono ?_
          rintro en w2 ⟨rfl, hw⟩
          have hw' := hw.symm
          subst hw'
          go_wp2_with fail
          go_quiet (fail)
          have hq1 := below_drewN (Below.refl w1.heap.size w1) nq
          generalize w1.drewN nq = wa at *
          have HBa := Lib.hid (HB1.out.trans (hq1.mono HB1.out.size))
          have HXa := Lib.hid (HX1.out.later hq1)
          have Ha := Lib.hid (H1.out.later hq1)
          clear hq1 z0 z1 z2 z3 z4 z5 x0 HB1 HX1 H1
          obtain ⟨x0, _⟩ := (Ha.out.all x hxm).pr.cells
          obtain ⟨z0, z1, z2, z3, z4, z5⟩ := hcs _ HXa.out
          go_wp2_with fail
          go_quiet (fail)
          have hq1 := below_drewN (Below.refl wa.heap.size wa) nq
          generalize wa.drewN nq = wb at *
          have HBb := Lib.hid (HBa.out.trans (hq1.mono HBa.out.size))
          have HXb := Lib.hid (HXa.out.later hq1)
          have Hb := Lib.hid (Ha.out.later hq1)
          clear hq1 z0 z1 z2 z3 z4 z5 x0 HBa HXa Ha
          obtain ⟨z0, z1, z2, z3, z4, z5⟩ := hcs _ HXb.out
          have hne : W.heap.size ≠ x.blk := Nat.ne_of_gt (hH.all x hxm).pr.box.lt
          have hS3 := And.intro z4 (And.intro z0 (And.intro z1 HXb.out.lt))
          have hxx := Hb.out.all x hxm
          have ca3 := add_c x.blk x.e x.R x.f x.c (b.seq, b.base, b.span) (wb.drew) (hxx.pr.later ((Below.refl _ _).drew))
          unfold snV at ca3
          have habs : absF (chgF (HE.more x (b.seq, b.base, b.span)) F) = moreG x.id (b.seq, b.base, b.span) (absF F) := abs_chg (fun y hy hyi => Hb.out.uniq hxm hy hyi) hxx.pr.f5 hxx.pr.c5
          rw [hxi] at habs
          have HAB := Lib.hid (habs.trans HN.out.symm)
          have HLE : Hid ((chgF (HE.more x (b.seq, b.base, b.span)) F).length ≤ F.length + 1) := Lib.hid (by unfold chgF; rw [List.length_map]; omega)
          have HXX := Lib.hid hxx
          clear habs hxx z0 z1 z2 z3 z4 z5
          go_wp2_with fail
          go_region_held3 (fun w => w.cell? ⟨W.heap.size, 4, none⟩ = some (.int .i64 b.seq) ∧ w.cell? ⟨W.heap.size, 0, none⟩ = some (.int .i64 b.base) ∧ w.cell? ⟨W.heap.size, 1, none⟩ = some (.int .i64 b.span) ∧ W.heap.size < w.heap.size) (first | exact hS3 | exact c3_off (k := x.blk) hS3 hoA hne)
            (first | ((with_reducible refine ca3.mono ?_); rintro en w4 ⟨rfl, hpr4, ho4⟩; have hoA : Off (· = x.blk) wb w4 := (Off.refl _ wb).drew.trans ho4 (fun _ _ h => h)))
          all_goals
            go_wp2_with fail
            go_end0
            refine ⟨rfl, m, _, PdIs.chg (x := HE.more x (b.seq, b.base, b.span)) Hb.out hxm rfl rfl ⟨hpr4, updW_ok HXX.out.ok hsn, HXX.out.id⟩ hoA, HAB.out, ?_, HLE.out, fun k hk => .inl hk, same_blk hxm⟩
            have hWb : Off (fun k => k = p ∨ m = some k ∨ ∃ h ∈ F, k = h.blk) W wb := Off.of_below _ HBb.out
            exact hWb.trans hoA (fun i hi e => .inr (.inr ⟨x, hxm, e⟩))
end Go.Proofs.Ytdhakekndinbeaa
