/- clean: the program's batches without what is old, by a contract. No condition but that they are not too many. -/
import Derived.Test.YtdclkhbolmbnmaaDoorClCl
import Derived.Test.YtdclkhbolmbnmaaDoorClPd
namespace Go.Proofs.YtdclkhbolmbnmaaDoor
open Go.RowKit Go.Maps Go.ChangeMaps Go.WideMaps
set_option linter.unusedVariables false
theorem keepL_none (j : Nat) (R : List Rec) : keepL (fun _ _ => false) j R = R := by
  induction R generalizing j with
  | nil => rfl
  | cons r l ih => unfold keepL; rw [ih]; rfl
/-- What stays of one batch. -/
def clnB (F : List TE) (P : List Pr.HE) (upto before : Int) (i : Nat) (x : BN × List Rec) : List (BN × List Rec) :=
  if upto < x.1.base + x.1.span then [x]
  else if (decide (0 < (keepL (dropQ F i before) 0 x.2).length) || (decide (0 ≤ x.1.prod) && (Pr.atH (Pr.ofId P x.1.prod) == (i : Int)))) then [(x.1, keepL (dropQ F i before) 0 x.2)] else []
theorem clnB_up {F : List TE} {P : List Pr.HE} {upto before : Int} {i : Nat} {x : BN × List Rec} (h : upto < x.1.base + x.1.span) : clnB F P upto before i x = [x] := if_pos h
theorem clnB_keep {F : List TE} {P : List Pr.HE} {upto before : Int} {i : Nat} {x : BN × List Rec} (h : ¬ upto < x.1.base + x.1.span) {K : List Rec} (hK : K = keepL (dropQ F i before) 0 x.2) (hc : 0 < K.length ∨ (0 ≤ x.1.prod ∧ Pr.atH (Pr.ofId P x.1.prod) = (i : Int))) : clnB F P upto before i x = [(x.1, K)] := by
  unfold clnB
  rw [if_neg h, ← hK, if_pos]
  rcases hc with hc | ⟨h1, h2⟩
  · rw [decide_eq_true hc]; rfl
  · rw [decide_eq_true h1, h2]; simp
theorem clnB_drop {F : List TE} {P : List Pr.HE} {upto before : Int} {i : Nat} {x : BN × List Rec} (h : ¬ upto < x.1.base + x.1.span) {K : List Rec} (hK : K = keepL (dropQ F i before) 0 x.2) (hc : ¬ 0 < K.length) (h2 : ¬ (0 ≤ x.1.prod ∧ Pr.atH (Pr.ofId P x.1.prod) = (i : Int))) : clnB F P upto before i x = [] := by
  unfold clnB
  rw [if_neg h, ← hK, if_neg]
  intro e
  rw [decide_eq_false hc] at e
  simp at e
  exact h2 e
/-- What stays. -/
def clnL (F : List TE) (P : List Pr.HE) (upto before : Int) : Nat → List (BN × List Rec) → List (BN × List Rec)
  | _, [] => []
  | i, x :: l => clnB F P upto before i x ++ clnL F P upto before (i + 1) l
theorem clnL_snoc (F : List TE) (P : List Pr.HE) (upto before : Int) (x : BN × List Rec) : ∀ (i : Nat) (l : List (BN × List Rec)), clnL F P upto before i (l ++ [x]) = clnL F P upto before i l ++ clnB F P upto before (i + l.length) x
  | i, [] => by
    show clnB F P upto before i x ++ clnL F P upto before (i + 1) [] = [] ++ clnB F P upto before (i + 0) x
    rw [show clnL F P upto before (i + 1) [] = [] from rfl]
    simp
  | i, y :: l => by
    have ih := clnL_snoc F P upto before x (i + 1) l
    show clnB F P upto before i y ++ clnL F P upto before (i + 1) (l ++ [x]) = _
    rw [ih]
    have e : i + 1 + l.length = i + (y :: l).length := by rw [List.length_cons]; omega
    rw [e, ← List.append_assoc]
    rfl
theorem clnL_step {F : List TE} {P : List Pr.HE} {upto before : Int} {l : List (BN × List Rec)} {k : Nat} {x : BN × List Rec} (hx : l[k]? = some x) : clnL F P upto before 0 (l.take (k + 1)) = clnL F P upto before 0 (l.take k) ++ clnB F P upto before k x := by
  have hk := (List.getElem?_eq_some_iff.1 hx).1
  rw [List.take_add_one, hx]
  show clnL F P upto before 0 (_ ++ [x]) = _
  rw [clnL_snoc, List.length_take, Nat.min_eq_left (Nat.le_of_lt hk), Nat.zero_add]
theorem own_ne_map {w : World} {base t z n m g : Nat} {k : TypeId} {v : Value} {xs : List Value} {D : DataW Unit} {R : Value → Option (DataW Unit × List MemPlace)} (h : w.ownsRow base t z v n xs) (hm : w.ownsMap Tryd.prog k R g m D) : ∀ j, v.ownBlock = some j → j ≠ g := by
  rintro j hj rfl
  obtain ⟨es, clock, hb, _⟩ := hm
  rcases h.2 with ⟨rfl, _⟩ | ⟨g2, cap, cur, rfl, _, hg, _⟩
  · cases hj
  · have : g2 = j := by simpa [Value.ownBlock] using hj
    subst this
    rw [hg] at hb
    cases hb
theorem BtsR.bset {w : World} {base g : Nat} {v : Value} {L : List BX} {z0 z1 z2 z3 z4 z5 : Value} (h : BtsR w base v L) (hb : Box w g 29 #[z0, z1, z2, z3, z4, z5]) (hB : ∀ j, v.ownBlock = some j → j ≠ g) (v0 v1 v2 v3 v4 v5 : Value) : BtsR (bset w g v0 v1 v2 v3 v4 v5) base v L :=
  ⟨own_off h.row (bset_off w g v0 v1 v2 v3 v4 v5) (fun j hj e => hB j hj e), fun x hx => (h.recs x hx).bset hb (by decide) (by decide) v0 v1 v2 v3 v4 v5⟩
/-- Cleaning under way. -/
structure CnS (W : World) (tb kb g1 g2 : Nat) (before : Int) (F : List TE) (P : List Pr.HE) (v : Value) (M : List BX) (w : World) : Prop where
  tbx : Box w tb 3 #[.int .i64 before]
  kbx : Box w kb 49 #[.map (some g1)]
  km : KmIs w (some g1) F
  pm : Pr.PmIs w (some g2) P
  row : BtsR w W.heap.size v M
  bel : Below W.heap.size W w
section
variable {W w w' : World} {tb kb g1 g2 : Nat} {before : Int} {F : List TE} {P : List Pr.HE} {v : Value} {M : List BX}
theorem CnS.later (h : CnS W tb kb g1 g2 before F P v M w) (hb : Below w.heap.size w w') : CnS W tb kb g1 g2 before F P v M w' :=
  ⟨h.tbx.later hb, h.kbx.later hb, h.km.later hb, h.pm.later hb, h.row.later hb, h.bel.trans (hb.mono h.bel.size)⟩
theorem CnS.km_map (h : CnS W tb kb g1 g2 before F P v M w) : w.ownsMap Tryd.prog 9 tokT g1 F.length (mapT F) := by
  rcases h.km.map with ⟨h1, _⟩ | ⟨g, h1, h2⟩
  · cases h1
  · injection h1 with h1
    subst h1
    exact h2
theorem CnS.pm_map (h : CnS W tb kb g1 g2 before F P v M w) : w.ownsMap Tryd.prog 3 Pr.tokP g2 P.length (Pr.mapP P) := by
  rcases h.pm.map with ⟨h1, _⟩ | ⟨g, h1, h2⟩
  · cases h1
  · injection h1 with h1
    subst h1
    exact h2
theorem CnS.bset {b : Nat} {z0 z1 z2 z3 z4 z5 : Value} (h : CnS W tb kb g1 g2 before F P v M w) (hb : Box w b 29 #[z0, z1, z2, z3, z4, z5]) (hB : ∀ j, v.ownBlock = some j → j ≠ b) (hbl : W.heap.size ≤ b) (v0 v1 v2 v3 v4 v5 : Value) : CnS W tb kb g1 g2 before F P v M (bset w b v0 v1 v2 v3 v4 v5) := by
  have hO := bset_off w b v0 v1 v2 v3 v4 v5
  refine ⟨h.tbx.off hO (box_ne h.tbx hb (by decide)), h.kbx.off hO (box_ne h.kbx hb (by decide)), h.km.off hO (fun k hk e => ?_), h.pm.off hO (fun k hk e => ?_), h.row.bset hb hB v0 v1 v2 v3 v4 v5, below_off h.bel hO hbl⟩
  · injection hk with hk
    exact box_ne_map hb h.km_map (by rw [← e, hk])
  · injection hk with hk
    exact box_ne_map hb h.pm_map (by rw [← e, hk])
/-- A batch more. -/
theorem CnS.app {B : Option Addr} {d : Nat} {y : BX} (h : CnS W tb kb g1 g2 before F P (.slice B M.length d) M w) (hy : RowR w W.heap.size (.slice y.2.2.1 y.2.1.length y.2.2.2) y.2.1) (hl : M.length ≤ 1000) :
    ∃ (A' : Option Addr) (c' : Nat) (w' : World), (Builtin.append_ #[22, 22] 22 #[.slice B M.length d, .slice (some ⟨w.heap.size, 0, none⟩) 1 1]).run Tryd.prog (w.alloc (.cells (bnC y.1 (.slice y.2.2.1 y.2.1.length y.2.2.2)) 29)) = .ok (.slice A' (M.length + 1) c') w' ∧
      CnS W tb kb g1 g2 before F P (.slice A' (M.length + 1) c') (M ++ [y]) w' ∧ (w.alloc (.cells (bnC y.1 (.slice y.2.2.1 y.2.1.length y.2.2.2)) 29)).grownBy w' (Value.slice B M.length d).ownBlock := by
  have hA : Below w.heap.size w (w.alloc (.cells (bnC y.1 (.slice y.2.2.1 y.2.1.length y.2.2.2)) 29)) := (Below.refl _ _).alloc (Nat.le_refl _) _
  have h' := h.later hA
  have hy' := hy.later hA
  have hbn := Box.new w 29 (bnC y.1 (.slice y.2.2.1 y.2.1.length y.2.2.2))
  generalize hw9 : (w.alloc (.cells (bnC y.1 (.slice y.2.2.1 y.2.1.length y.2.2.2)) 29)) = w9 at *
  obtain ⟨A', c', w', r1, o1, g1'⟩ := catZ (t := 22) (sz := 6) (u := .slice (some ⟨w.heap.size, 0, none⟩) 1 1) (m := 1) (ys := (bnC y.1 (.slice y.2.2.1 y.2.1.length y.2.2.2)).toList) (by decide) Tryd.underlying22 batInfo rfl (by decide) h'.row.row (.inr ⟨_, _, rfl, rfl, news_at hbn⟩) (bat_one y.1 y.2.2.1 y.2.1.length y.2.2.2) h'.bel.size (by omega)
  refine ⟨A', c', w', r1, ?_, g1'⟩
  have hO : Off (fun j => (Value.slice B M.length d).ownBlock = some j) w9 w' := (Off.refl _ w9).grown g1' (fun j hj _ => hj)
  refine ⟨h'.tbx.off hO (fun e => own_ne h'.row.row h'.tbx (by decide) _ e rfl), h'.kbx.off hO (fun e => own_ne h'.row.row h'.kbx (by decide) _ e rfl), h'.km.off hO (fun k hk e => ?_), h'.pm.off hO (fun k hk e => ?_), h'.row.grow hy' o1 g1', h'.bel.grown g1' h'.bel.size (fun j hj => (h'.row.row.lt j hj).1)⟩
  · injection hk with hk
    exact own_ne_map h'.row.row h'.km_map k e hk.symm
  · injection hk with hk
    exact own_ne_map h'.row.row h'.pm_map k e hk.symm
end
/-- What comes of cleaning. -/
def Cleaned (W : World) (N : List (BN × List Rec)) (en : Ending) (w' : World) : Prop := ∃ (M : List BX) (A : Option Addr) (c : Nat), M.map BX.told = N ∧ en = .returned (.slice A M.length c) ∧ BtsR w' W.heap.size (.slice A M.length c) M ∧ Below W.heap.size W w'
set_option maxHeartbeats 32000000 in
set_option maxRecDepth 100000 in
theorem clean_c (L : List BX) (A : Option Addr) (c : Nat) (upto before : Int) (W : World) (h : BsIn W A L) (hl : L.length ≤ 1000) (hr : ∀ x ∈ L, x.2.1.length ≤ 1000) (hz : ∀ x ∈ L, ∀ y ∈ x.2.1, y.1.key.size ≤ maxLen) (hh : ∀ x ∈ L, ∀ y ∈ x.2.1, y.1.heads.length ≤ 1000) (hp : ∀ x ∈ L, Pr.i64B x.1.prod) (hs : ∀ x ∈ L, Pr.i64B (x.1.base + x.1.span)) :
    Calls Tryd.prog 9 #[.slice A L.length c, .int .i64 upto, .int .i64 before] W (Cleaned W (clnL (lastF (L.map bxR)) (prdF 0 (L.map (·.1)) []) upto before 0 (L.map BX.told))) := by
  have hbt : Below W.heap.size W (W.alloc (.cells #[.int .i64 before] 3)) := (Below.refl _ _).alloc (Nat.le_refl _) _
  have HT := Lib.hid (And.intro hbt (Box.new W 3 #[.int .i64 before]))
  have hk := lastOfKeys_c L A c _ (h.below hbt) hl hr hz
  have HP := Lib.hid (fun w (hw : Below W.heap.size W w) => lastOfProducers_c L A c w (h.below hw) hl hp)
  have HH := Lib.hid h
  have HR := Lib.hid hr
  have HZ := Lib.hid hz
  have HE := Lib.hid hh
  have HQ := Lib.hid (And.intro hp hs)
  clear h hr hz hh hp hs hbt
  go_enter Tryd.func9, Tryd.ntmps9
  go_wp2_with fail
  (with_reducible refine hk.mono ?_)
  rintro e w1 ⟨g1, rfl, hg1, hkm, hb1⟩
  have hb1W := HT.out.1.trans (hb1.mono HT.out.1.size)
  have hpd := HP.out w1 hb1W
  have HK1 := Lib.hid (And.intro hkm hb1)
  clear hk hkm hb1
  go_wp2_with fail
  (with_reducible refine hpd.mono ?_)
  rintro e w2 ⟨g2, rfl, hg2, hpm, hb2⟩
  have hb3 : Below w2.heap.size w2 (w2.alloc (.cells #[.map (some g1)] 49)) := (Below.refl _ _).alloc (Nat.le_refl _) _
  have hk3 := Box.new w2 49 #[.map (some g1)]
  have H0 : Hid (CnS W W.heap.size w2.heap.size g1 g2 before (lastF (L.map bxR)) (prdF 0 (L.map (·.1)) []) (.slice none 0 0) [] (w2.alloc (.cells #[.map (some g1)] 49))) :=
    Lib.hid ⟨((HT.out.2.later HK1.out.2).later hb2).later hb3, hk3, (HK1.out.1.later hb2).later hb3, hpm.later hb3, BtsR.nil _ _, (hb1W.trans (hb2.mono hb1W.size)).trans (hb3.mono (hb1W.trans (hb2.mono hb1W.size)).size)⟩
  obtain ⟨F, hF⟩ : ∃ F, lastF (L.map bxR) = F := ⟨_, rfl⟩
  obtain ⟨P, hP⟩ : ∃ P, prdF 0 (L.map (·.1)) [] = P := ⟨_, rfl⟩
  rw [hF, hP] at H0
  have HF := Lib.hid (And.intro hF hP)
  clear hpd hpm hb2 hb3 hk3 hg1 hg2 hb1W HK1 HP HT hF hP
  go_wp2_with fail
  go_loopw [9, 18] (fun l j wr => ∃ (k : Nat) (M : List BX) (B : Option Addr) (d : Nat), l = .slice B M.length d ∧ j = .int .i64 k ∧ k ≤ L.length ∧ M.length ≤ k ∧ M.map BX.told = clnL F P upto before 0 ((L.map BX.told).take k) ∧ CnS W W.heap.size w2.heap.size g1 g2 before F P (.slice B M.length d) M wr) (fun _ j _ => L.length - (intOf j).toNat)
  case atStart => exact ⟨0, [], none, 0, rfl, rfl, Nat.zero_le _, Nat.zero_le _, rfl, H0.out⟩
  case round =>
    obtain ⟨k, M, B, d, rfl, rfl, hk, hmk, hM, hS⟩ := hrel
    clear H0
    by_cases hkl : k < L.length
    · obtain ⟨x, hx⟩ : ∃ x, L[k]? = some x := ⟨_, List.getElem?_eq_getElem hkl⟩
      obtain ⟨b, off, rfl, hbl, hca⟩ := (HH.out.below hS.bel) (by omega)
      obtain ⟨⟨z0, z1, z2, z3, z4, z5⟩, hrs⟩ := hca k x hx
      have hxm := List.mem_of_getElem? hx
      have HST := Lib.hid (clnL_step (F := F) (P := P) (upto := upto) (before := before) (show (L.map BX.told)[k]? = some x.told by rw [List.getElem?_map, hx]; rfl))
      have HM := Lib.hid hM
      have HS := Lib.hid hS
      have HR1 := Lib.hid (HR.out x hxm)
      have HZ1 := Lib.hid (HZ.out x hxm)
      have HE1 := Lib.hid (HE.out x hxm)
      obtain ⟨hq1, hq2⟩ : Pr.i64B x.1.prod ∧ Pr.i64B (x.1.base + x.1.span) := ⟨HQ.out.1 x hxm, HQ.out.2 x hxm⟩
      have HRS := Lib.hid hrs
      have HBS := Lib.hid hS.bel.size
      have HRB : Hid (∀ j, (Value.slice B M.length d).ownBlock = some j → j < wr.heap.size) := Lib.hid (fun j hj => (hS.row.row.lt j hj).2)
      have hki : (k : Int) < (L.length : Int) := by omega
      have hk0 : (0 : Int) ≤ (k : Int) := by omega
      obtain ⟨⟨base, span, prod, epoch, seq⟩, R, RA, rc⟩ := x
      dsimp only at *
      have HQ1 := Lib.hid hq1
      have HQ2 := Lib.hid hq2
      unfold Pr.i64B at hq1 hq2
      obtain ⟨hq21, hq22⟩ := hq2
      clear hS hca hx hrs hxm hM hq1
      generalize hk6 : k * 6 = k6 at *
      have hA1 : Below wr.heap.size wr (wr.alloc (.cells #[.int .i64 k] 3)) := (Below.refl _ _).alloc (Nat.le_refl _) _
      have hA2 : Below wr.heap.size wr ((wr.alloc (.cells #[.int .i64 k] 3)).alloc (.cells #[.int .i64 base, .int .i64 span, .int .i64 prod, .int .i64 epoch, .int .i64 seq, .slice RA R.length rc] 29)) := hA1.alloc (by simp) _
      have HX1 := Lib.hid ((Box.new wr 3 #[.int .i64 k]).alloc (.cells #[.int .i64 base, .int .i64 span, .int .i64 prod, .int .i64 epoch, .int .i64 seq, .slice RA R.length rc] 29))
      have hx2 := Box.new (wr.alloc (.cells #[.int .i64 k] 3)) 29 #[.int .i64 base, .int .i64 span, .int .i64 prod, .int .i64 epoch, .int .i64 seq, .slice RA R.length rc]
      rw [World.size_alloc] at hx2
      have HX2 := Lib.hid hx2
      have HS2 := Lib.hid (HS.out.later hA2)
      have HRS2 := Lib.hid (HRS.out.below hA2)
      obtain ⟨w5, hw5⟩ : ∃ w, ((wr.alloc (.cells #[.int .i64 k] 3)).alloc (.cells #[.int .i64 base, .int .i64 span, .int .i64 prod, .int .i64 epoch, .int .i64 seq, .slice RA R.length rc] 29)) = w := ⟨_, rfl⟩
      have HSZ : Hid (w5.heap.size = wr.heap.size + 2) := Lib.hid (by rw [← hw5]; simp)
      rw [hw5] at HX1 HX2 HS2 HRS2
      have HW5 := Lib.hid hw5
      clear hA1 hA2 hx2
      by_cases hup : upto < base + span
      · have cc := without_c 22 #[] (fun _ _ => false) (fun _ _ => rfl) ⟨base, span, prod, epoch, seq⟩ R RA rc w5 HRS2.out HR1.out HE1.out (fun j x w _ _ => never_c j w)
        unfold Without at cc
        rw [keepL_none] at cc
        unfold bnC at cc
        dsimp only at cc
        clear hw5
        go_wp2_with fail
        rw [HW5.out]
        (with_reducible refine cc.mono ?_)
        rintro e w6 ⟨M6, A6, c6, hm6, rfl, hr6, hb6⟩
        have hS6 := HS2.out.later hb6
        obtain ⟨A7, c7, w7, r7, hS7, _⟩ := hS6.app (y := (⟨base, span, prod, epoch, seq⟩, M6, A6, c6)) (hr6.base HS2.out.bel.size) (by omega)
        have HS7 := Lib.hid hS7
        unfold bnC at r7
        dsimp only at r7
        clear hS6 hr6 hb6 cc hS7
        go_wp2_with (at_builtin; refine wpList_append_run rfl (.tmp 30) (.tmp 33) 22 rfl _ _ _ rfl rfl r7 ?_)
        refine ⟨⟨k + 1, M ++ [(⟨base, span, prod, epoch, seq⟩, M6, A6, c6)], A7, c7, by rw [List.length_append]; rfl, by go_num, hkl, by rw [List.length_append]; show M.length + 1 ≤ _; omega, ?_, by rw [List.length_append]; exact HS7.out⟩, by simp [intOf]; omega⟩
        rw [HST.out, List.map_append, HM.out]
        rw [clnB_up (x := BX.told (⟨base, span, prod, epoch, seq⟩, R, RA, rc)) hup]
        show _ ++ [(_, M6.map (·.1))] = _
        rw [hm6]
        rfl
      · have HUP := Lib.hid hup
        have cc := without_c 23 #[.pointer (some ⟨wr.heap.size + 1, 0, none⟩), .pointer (some ⟨w2.heap.size, 0, none⟩), .pointer (some ⟨wr.heap.size, 0, none⟩), .pointer (some ⟨W.heap.size, 0, none⟩)] (dropQ F k before) (fun _ _ => rfl) ⟨base, span, prod, epoch, seq⟩ R RA rc w5 HRS2.out HR1.out HE1.out (fun j x w hx hb => drop_c w (wr.heap.size + 1) w2.heap.size wr.heap.size W.heap.size (some g1) F ⟨base, span, prod, epoch, seq⟩ R RA rc k before (HX2.out.later hb) (HS2.out.kbx.later hb) (HX1.out.later hb) (HS2.out.tbx.later hb) (HS2.out.km.later hb) (HRS2.out.below hb) j x hx (HZ1.out x (List.mem_of_getElem? hx)))
        unfold Without at cc
        unfold bnC at cc
        dsimp only at cc
        clear hw5
        go_wp2_with fail
        rw [HW5.out]
        (with_reducible refine cc.mono ?_)
        rintro e w6 ⟨M6, A6, c6, hm6, rfl, hr6, hb6⟩
        have hS6 := HS2.out.later hb6
        have hx6 := HX2.out.later hb6
        have hi6 := HX1.out.later hb6
        have hS7 := hS6.bset hx6 (fun j hj => by have := HRB.out j hj; omega) (by have := HBS.out; omega) (.int .i64 base) (.int .i64 span) (.int .i64 prod) (.int .i64 epoch) (.int .i64 seq) (.slice A6 M6.length c6)
        have hx7 := bset_box hx6 (.int .i64 base) (.int .i64 span) (.int .i64 prod) (.int .i64 epoch) (.int .i64 seq) (.slice A6 M6.length c6)
        have hi7 := hi6.off (bset_off w6 (wr.heap.size + 1) (.int .i64 base) (.int .i64 span) (.int .i64 prod) (.int .i64 epoch) (.int .i64 seq) (.slice A6 M6.length c6)) (by omega)
        have hr7 := (hr6.base HS2.out.bel.size).bset hx6 (by decide) (by decide) (.int .i64 base) (.int .i64 span) (.int .i64 prod) (.int .i64 epoch) (.int .i64 seq) (.slice A6 M6.length c6)
        obtain ⟨y0, y1, y2, y3, y4, y5⟩ := box_six hx6
        have e0 : w6.cell? ⟨wr.heap.size, 0, none⟩ = some (.int .i64 k) := (hi6.cell 0).trans rfl
        have l6 := hx6.lt
        have il := hi6.lt
        have f0 := hx6.frozen 0
        have f1 := hx6.frozen 1
        have f2 := hx6.frozen 2
        have f3 := hx6.frozen 3
        have f4 := hx6.frozen 4
        have f5 := hx6.frozen 5
        have hlk := Pr.look_run hS7.pm prod HQ1.out
        obtain ⟨A8, c8, w8, r8, hS8, _⟩ := hS7.app (y := (⟨base, span, prod, epoch, seq⟩, M6, A6, c6)) hr7 (by omega)
        unfold bset at hlk r8
        unfold bnC at r8
        simp only [World.size_setCell] at r8
        have HS7 := Lib.hid hS7
        have HS8 := Lib.hid hS8
        have HM6 := Lib.hid hm6
        generalize hat : Pr.atH (Pr.ofId P prod) = q at *
        have HAT := Lib.hid hat
        clear hS6 hx6 hi6 hS7 hx7 hi7 hr7 hr6 hb6 cc hS8 hm6 hat
        by_cases hlen : 0 < M6.length
        · have hlen' : (0 : Int) < (M6.length : Int) := by omega
          go_wp2_with (at_builtin; refine wpList_append_run rfl (.tmp 55) (.tmp 57) 22 rfl _ _ _ rfl rfl r8 ?_)
          refine ⟨⟨k + 1, M ++ [(⟨base, span, prod, epoch, seq⟩, M6, A6, c6)], A8, c8, by rw [List.length_append]; rfl, by go_num, hkl, by rw [List.length_append]; show M.length + 1 ≤ _; omega, ?_, by rw [List.length_append]; exact HS8.out⟩, by simp [intOf]; omega⟩
          rw [HST.out, List.map_append, HM.out, clnB_keep (x := BX.told (⟨base, span, prod, epoch, seq⟩, R, RA, rc)) (Int.not_lt.2 HUP.out) (K := M6.map (·.1)) HM6.out (.inl (by rw [List.length_map]; exact hlen))]
          rfl
        · have hlen' : ¬ (0 : Int) < (M6.length : Int) := by omega
          by_cases hpr : 0 ≤ prod
          · by_cases hqk : q = (k : Int)
            · have hqk' : (q == (k : Int)) = true := beq_iff_eq.2 hqk
              go_wp2_with (at_builtin; refine wpList_append_run rfl (.tmp 55) (.tmp 57) 22 rfl _ _ _ rfl rfl r8 ?_)
              refine ⟨⟨k + 1, M ++ [(⟨base, span, prod, epoch, seq⟩, M6, A6, c6)], A8, c8, by rw [List.length_append]; rfl, by go_num, hkl, by rw [List.length_append]; show M.length + 1 ≤ _; omega, ?_, by rw [List.length_append]; exact HS8.out⟩, by simp [intOf]; omega⟩
              rw [HST.out, List.map_append, HM.out, clnB_keep (x := BX.told (⟨base, span, prod, epoch, seq⟩, R, RA, rc)) (Int.not_lt.2 HUP.out) (K := M6.map (·.1)) HM6.out (.inr ⟨hpr, HAT.out.trans hqk⟩)]
              rfl
            · have hqk' : (q == (k : Int)) = false := beq_eq_false_iff_ne.2 hqk
              go_wp2_with fail
              refine ⟨⟨k + 1, M, B, d, rfl, by go_num, hkl, by omega, ?_, HS7.out⟩, by simp [intOf]; omega⟩
              rw [HST.out, HM.out, clnB_drop (x := BX.told (⟨base, span, prod, epoch, seq⟩, R, RA, rc)) (Int.not_lt.2 HUP.out) (K := M6.map (·.1)) HM6.out (by rw [List.length_map]; exact hlen) (fun e => hqk (HAT.out.symm.trans e.2)), List.append_nil]
          · have hpr' : prod < 0 := by omega
            have HPR := Lib.hid hpr
            clear hlk r8 hpr hq21 hq22
            go_wp2_with fail
            refine ⟨⟨k + 1, M, B, d, rfl, by go_num, hkl, by omega, ?_, HS7.out⟩, by simp [intOf]; omega⟩
            rw [HST.out, HM.out, clnB_drop (x := BX.told (⟨base, span, prod, epoch, seq⟩, R, RA, rc)) (Int.not_lt.2 HUP.out) (K := M6.map (·.1)) HM6.out (by rw [List.length_map]; exact hlen) (fun e => (Int.not_le.2 HPR.out) e.1), List.append_nil]
    · have hki : ¬ (k : Int) < (L.length : Int) := by omega
      have hS1 := hS.row
      have hS2 := hS.bel
      rw [List.take_of_length_le (by rw [List.length_map]; omega)] at hM
      rw [← HF.out.1, ← HF.out.2] at hM
      have HFin : Hid (Cleaned W (clnL (lastF (L.map bxR)) (prdF 0 (L.map (·.1)) []) upto before 0 (L.map BX.told)) (.returned (.slice B M.length d)) wr) := Lib.hid ⟨M, B, d, hM, rfl, hS1, hS2⟩
      clear hS hM hS1 hS2
      go_wp2_with fail
      go_ret
      exact HFin.out
end Go.Proofs.YtdclkhbolmbnmaaDoor
