/- idem: Print, by a contract: the walk. No condition but that they are not too many. -/
import Derived.Test.YtdhakekndinbeaaImPn
import Derived.Test.YtdhakekndinbeaaImG
namespace Go.Proofs.Ytdhakekndinbeaa
open Go.RowKit Go.Maps Go.ChangeMaps Go.WideMaps Go.Sort Go.Shelf
set_option linter.unusedVariables false
/-- Between two rounds: the builder, the numbers in their order, all else as it was. -/
structure PnI (W : World) (q : Nat) (v : Value) (F : List HE) (l : List UInt8) (w : World) : Prop where
  bld : Bld w W.heap.size q l
  row : w.ownsRow W.heap.size 3 1 v F.length (idsV F)
  bel : Below W.heap.size W w
theorem own_keep {w w' : World} {B b n : Nat} {v : Value} {xs : List Value} {l : List UInt8} (h : w.ownsRow B 3 1 v n xs) (hb : Bld w B b l) (hk : Keeps b w w') : w'.ownsRow B 3 1 v n xs := by
  refine ⟨h.1, ?_⟩
  rcases h.2 with h0 | ⟨g, cap, cur, rfl, hB, hg, hr⟩
  · exact .inl h0
  · refine .inr ⟨g, cap, cur, rfl, hB, ?_, hr⟩
    have hne : g ≠ b := hb.box (t := 3) (cs := cur) hg (by decide)
    exact (hk g (lt_of_there hg) hne (fun c f e => by rw [hg] at e; injection e with e; injection e with _ e _; exact absurd e (by decide))).trans hg
theorem PnI.step {W w w' : World} {q : Nat} {v : Value} {F : List HE} {l l' : List UInt8} (h : PnI W q v F l w) (hl : Bld w' W.heap.size q l') (hb : Below W.heap.size w w') (hk : Keeps q w w') : PnI W q v F l' w' :=
  ⟨hl, own_keep h.row h.bld hk, h.bel.trans hb⟩
theorem PnI.later {W w w' : World} {q : Nat} {v : Value} {F : List HE} {l : List UInt8} (h : PnI W q v F l w) (hb : Below w.heap.size w w') : PnI W q v F l w' :=
  ⟨h.bld.later hb, own_below h.row hb, h.bel.trans (hb.mono h.bel.size)⟩
/-- The closure at numbers that were just laid. -/
theorem PnI.put {W w : World} {q : Nat} {v : Value} {F : List HE} {l : List UInt8} (h : PnI W q v F l w) (L : List Int) (n : Nat) (hn : L.length = n) (hL : L.length ≤ 5) (hb : ∀ x ∈ L, i64B x) (hlen : l.length ≤ 140737488350000) (w' : World) (g : Nat) (hbel : Below w.heap.size w w') (hg : Box w' g 3 (numC L)) :
    Calls Try.prog 33 #[.slice (some ⟨g, 0, none⟩) n n, .pointer (some ⟨q, 0, none⟩)] w' (fun en w2 => en = .returned (.tuple #[]) ∧ PnI W q v F (l ++ putsL L) w2) := by
  have h2 := h.later hbel
  refine (nput_c W.heap.size q g L n hn l w' h2.bld hg hL hb hlen h2.bel.size).mono ?_
  rintro en w2 ⟨rfl, a, b, c⟩
  exact ⟨rfl, h2.step a b c⟩
/-- Numbers that were just laid. -/
theorem numC_new (w : World) (L : List Int) : Box (w.alloc (.cells (numC L) 3)) w.heap.size 3 (numC L) := Box.new _ _ _
theorem absF_get {F : List HE} {k : Nat} {x : HE} (h : F[k]? = some x) : (absF F)[k]? = some (absH x) := by unfold absF; rw [List.getElem?_map, h]; rfl
theorem ids_cell {w : World} {B : Nat} {v : Value} {F : List HE} (h : w.ownsRow B 3 1 v F.length (idsV F)) {k : Nat} {x : HE} (hk : F[k]? = some x) : ∃ g cap, v = .slice (some ⟨g, 0, none⟩) F.length cap ∧ w.cell? ⟨g, k, none⟩ = some (.int .i64 x.id) := by
  have hl : k < F.length := (List.getElem?_eq_some_iff.1 hk).1
  have hrow := h
  rcases hrow.2 with ⟨hv, h0⟩ | ⟨g, cap, cur, rfl, hg, hh, h4, h5, h6, h7⟩
  · omega
  · refine ⟨g, cap, rfl, ?_⟩
    have hi : (idsV F)[k * 1]? = some (.int .i64 x.id) := by unfold idsV; rw [Nat.mul_one, List.getElem?_map, hk]; rfl
    have := (hrow.cellAt (k * 1) (by omega)).trans hi
    rwa [Nat.mul_one] at this
theorem i64N (n : Nat) (h : n ≤ 1000000000) : i64B (n : Int) := by unfold i64B; omega
theorem GOk.bnd {G : List GH} (h : GOk G) {y : GH} (hy : y ∈ G) : (∀ n ∈ [y.1, y.2.1, (y.2.2.length : Int)], i64B n) ∧ ∀ s ∈ y.2.2, ∀ n ∈ [s.1, s.2.1, s.2.2], i64B n := by
  obtain ⟨a, b, c, d⟩ := h.num y hy
  refine ⟨fun n hn => ?_, fun s hs n hn => ?_⟩
  · unfold i64B
    simp only [List.mem_cons, List.not_mem_nil, or_false] at hn
    rcases hn with rfl | rfl | rfl <;> omega
  · have := h.sent y hy s hs
    unfold i64B
    simp only [List.mem_cons, List.not_mem_nil, or_false] at hn
    rcases hn with rfl | rfl | rfl <;> omega
theorem own_base' {w : World} {base B t size n : Nat} {v : Value} {xs : List Value} (h : w.ownsRow base t size v n xs) (hB : B ≤ base) : w.ownsRow B t size v n xs := by
  refine ⟨h.1, ?_⟩
  rcases h.2 with h0 | ⟨g, cap, cur, rfl, hb, hg⟩
  · exact .inl h0
  · exact .inr ⟨g, cap, cur, rfl, Nat.le_trans hB hb, hg⟩
theorem own_slc {w : World} {B ty size n : Nat} {v : Value} {xs : List Value} (h : w.ownsRow B ty size v n xs) : ∃ A c, v = .slice A n c := by
  rcases h.2 with ⟨rfl, h0⟩ | ⟨g, cap, cur, rfl, _⟩
  · exact ⟨none, 0, by rw [h0]⟩
  · exact ⟨_, _, rfl⟩
theorem of_self {F : List HE} (hr : F.Pairwise fun a b => a.id < b.id) : ∀ {k : Nat} {x : HE}, F[k]? = some x → ofId F x.id = some x := by
  intro k x hk
  have hm : x ∈ F := List.mem_of_getElem? hk
  unfold ofId
  cases hf : F.find? (fun h => decide (h.id = x.id)) with
  | none =>
    have := List.find?_eq_none.1 hf x hm
    simp at this
  | some y =>
    have hy := List.mem_of_find?_eq_some hf
    have he : y.id = x.id := by have := List.find?_some hf; simpa using this
    obtain ⟨j, hj⟩ := List.getElem?_of_mem hy
    have hjl := List.getElem?_eq_some_iff.1 hj
    have hkl := List.getElem?_eq_some_iff.1 hk
    have hp := List.pairwise_iff_getElem.1 hr
    by_cases e : j = k
    · subst e
      rw [hj] at hk
      exact hk
    · exfalso
      rcases Nat.lt_or_gt_of_ne e with h | h
      · have := hp j k hjl.1 hkl.1 h
        rw [hjl.2, hkl.2] at this
        omega
      · have := hp k j hkl.1 hjl.1 h
        rw [hjl.2, hkl.2] at this
        omega
/-- What a look-up hands back. -/
theorem look_at {w : World} {p : Nat} {m : Option Nat} {F : List HE} (h : PdIs w p m F) {k : Nat} {x : HE} (hk : F[k]? = some x) : (Instr.lookup 56 (.map m) (.int .i64 x.id) false).run Try.prog w = .ok (.pointer (some ⟨x.blk, 0, none⟩)) w := by
  have hx := (h.all x (List.mem_of_getElem? hk)).id
  have := look_run h x.id (by unfold i64B; omega)
  rwa [of_self h.rise hk] at this
set_option maxHeartbeats 16000000 in
set_option maxRecDepth 100000 in
theorem print_in (pv : Value) (p : Nat) (m : Option Nat) (F : List HE) (W : World) (h : PdIs W p m F) (hlen : F.length ≤ 1000000) (hG : GOk (absF F)) (hp : pv = dp p ∨ (pv = .pointer none ∧ m = none)) :
    Calls Try.prog 17 #[pv] W (Good W (.string ⟨(printL (absF F)).toArray⟩)) := by
  have y0 : W.cell? ⟨p, 0, none⟩ = some (.map m) := (h.box.cell 0).trans rfl
  have HP := Lib.hid h
  have HG := Lib.hid hG
  have hF : Hid (∀ y ∈ absF F, y.2.2.length ≤ 5) := Lib.hid (fun y hy => by
    obtain ⟨x, hx, rfl⟩ := List.mem_map.1 hy
    show (winL x.R x.f x.c).length ≤ 5
    rw [winL_len]
    exact (h.all x hx).pr.c5)
  have hlr := fun (w : World) (hb : Below W.heap.size W w) (ty : TypeId) => len_run (h.later hb) ty
  have hB0 : Below W.heap.size W (W.alloc (.cells #[.pointer none, .slice none 0 0] 83)) := (Below.refl _ _).alloc (Nat.le_refl _) _
  have l0 := hlr _ hB0
  have H0 : Hid (PnI W W.heap.size (.slice none 0 0) [] [] (W.alloc (.cells #[.pointer none, .slice none 0 0] 83))) := Lib.hid ⟨Bld.fresh W, World.ownsRow_nil _ _ _ _, hB0⟩
  have c1 := H0.out.put [(F.length : Int)] 1 rfl (by simp) (fun n hn => (show n = (F.length : Int) by simpa using hn) ▸ i64N _ (by omega)) (by simp) ((W.alloc (.cells #[.pointer none, .slice none 0 0] 83)).alloc (.cells #[.int .i64 (F.length : Int)] 3)) (W.heap.size + 1) ((Below.refl _ _).alloc (Nat.le_refl _) _) (by
    have := numC_new (W.alloc (.cells #[.pointer none, .slice none 0 0] 83)) [(F.length : Int)]
    rwa [World.size_alloc] at this)
  have ck := fun w => (callsIn_wide (n := 5)).1 (Try.maps_Keys_37 m w)
  have cs := fun w (hb : Below W.heap.size W w) => sorted_c (h.later hb) hlen
  have e0 : ([] : List UInt8) ++ putsL [(F.length : Int)] = prK (absF F) 0 := by rw [prK_zero]; unfold putsL absF; simp
  rw [e0] at c1
  have HLE := Lib.hid hlen
  clear h hG hB0 hlr e0 H0 hlen
  rcases hp with rfl | ⟨rfl, rfl⟩
  all_goals
    unfold dp at *
    go_enter Try.func17, Try.ntmps17
    go_wp2_with fail
    with_reducible refine c1.mono ?_
    rintro en w1 ⟨rfl, h1⟩
    have H1 := Lib.hid h1
    have HPW := Lib.hid (HP.out.later h1.bel)
    clear h1 y0 l0
    go_wp2_with fail
    with_reducible refine (ck _).mono ?_
    rintro en w2 ⟨rfl, hw2⟩
    have hw2' := hw2.symm
    subst hw2'
    clear hw2
    go_wp2_with fail
    with_reducible refine (cs _ H1.out.bel).mono ?_
    rintro en w3 ⟨v, rfl, hrow, hb3⟩
    have H3 : Hid (PnI W W.heap.size v F (prK (absF F) 0) w3) := Lib.hid (by
      have hz := H1.out.bel.size
      have hb := ((Below.refl w1.heap.size w1).alloc (Nat.le_refl _) (.cells #[.map _] 56)).trans (hb3.mono (by simp))
      have := H1.out.later hb
      exact ⟨this.bld, own_base' hrow (by simp; omega), this.bel⟩)
    obtain ⟨A, c, rfl⟩ := own_slc hrow
    clear hrow hb3 H1 HPW c1 ck cs
    go_wp2_with fail
    go_loopw [27] (fun i wr => ∃ k : Nat, i = .int .i64 k ∧ k ≤ F.length ∧ PnI W W.heap.size (.slice A F.length c) F (prK (absF F) k) wr) (fun i _ => F.length - (intOf i).toNat)
    case atStart => exact ⟨0, rfl, Nat.zero_le _, H3.out⟩
    case round =>
      obtain ⟨k, rfl, hk, hI⟩ := hrel
      have HI := Lib.hid hI
      clear H3 hI
      by_cases hkl : k < F.length
      · obtain ⟨x, hx⟩ : ∃ x, F[k]? = some x := ⟨_, List.getElem?_eq_getElem hkl⟩
        obtain ⟨g, cap, hv, hcell⟩ := ids_cell HI.out.row hx
        injection hv with hA _ hc
        subst hA hc
        have hlk := fun (w : World) (hb : Below W.heap.size W w) => look_at (HP.out.later hb) hx
        have hl1 := hlk _ HI.out.bel
        have hpr := fun (w : World) (hb : Below W.heap.size W w) => ((HP.out.later hb).all x (List.mem_of_getElem? hx)).pr
        have hgy := absF_get hx
        have hym : absH x ∈ absF F := List.mem_of_getElem? hgy
        have hbd := HG.out.bnd hym
        have h5 : x.c ≤ 5 := (hpr _ HI.out.bel).c5
        have hsn := Lib.hid (prK_snoc hgy)
        have hz := Lib.hid (oneK_zero (absH x))
        have hend := Lib.hid (fun j => oneK_end (absH x) (j := j))
        have hosn := Lib.hid (fun j s => oneK_snoc (y := absH x) (j := j) (s := s))
        have hPR := Lib.hid hpr
        have hpl : (prK (absF F) k).length ≤ 180000010 := by
          have h1 := prK_len (absF F) k hF.out
          have h2 : (absF F).length = F.length := by unfold absF; rw [List.length_map]
          have h3 := HLE.out
          omega
        have hK0 : (0 : Int) ≤ (k : Int) := by omega
        have hK1 : (k : Int) < (F.length : Int) := by omega
        have hHX := Lib.hid hx
        have BD := Lib.hid hbd
        have HPL := Lib.hid hpl
        clear hx hgy hym hbd hpl hlk hpr
        go_wp2_with fail
        have P0 := hPR.out wr HI.out.bel
        obtain ⟨x0, _, x17, xlt⟩ := P0.cells
        have xlw : x.blk < wr.heap.size := xlt
        have hAB : (absH x).2.2.length = x.c := winL_len _ _ _
        have cA := HI.out.put [x.id, x.e, (x.c : Int)] 3 rfl (by simp) (by have := BD.out.1; rw [hAB] at this; exact this) (by have := HPL.out; omega) ((wr.alloc (.cells #[.int .i64 x.id, .int .i64 x.e, .int .i64 (x.c : Int)] 3)).drew) wr.heap.size (((Below.refl _ _).alloc (Nat.le_refl _) _).drew) (numC_new wr [x.id, x.e, (x.c : Int)]).drew
        have hz1 := hz.out
        rw [hAB] at hz1
        rw [show putsL [x.id, x.e, (x.c : Int)] = oneK (absH x) 0 from hz1.symm] at cA
        have HAB := Lib.hid hAB
        have hS : Hid (∀ w, Below W.heap.size W w → (w.cell? ⟨x.blk, 0, none⟩ = some (.int .i64 x.e) ∧ w.cell? ⟨x.blk, 17, none⟩ = some (.int .i64 (x.c : Int)) ∧ x.blk < w.heap.size)) := Lib.hid (fun w hw => ⟨(hPR.out w hw).cells.1, (hPR.out w hw).cells.2.2.1, (hPR.out w hw).cells.2.2.2⟩)
        clear hz1 hz hAB P0
        go_region_held3 (fun w => w.cell? ⟨x.blk, 0, none⟩ = some (.int .i64 x.e) ∧ w.cell? ⟨x.blk, 17, none⟩ = some (.int .i64 (x.c : Int)) ∧ x.blk < w.heap.size) (first | exact ⟨x0, x17, xlw⟩ | exact hS.out _ (HI.out.bel.alloc HI.out.bel.size _) | exact hS.out _ HI.out.bel.drew | exact hS.out _ (HI.out.bel.alloc HI.out.bel.size _).drew | exact hS.out _ (HI.out.bel.drew.alloc HI.out.bel.size _) | exact hS.out _ h4.bel)
          (first | ((with_reducible refine cA.mono ?_); rintro en w4 ⟨rfl, h4⟩))
        all_goals
          have H4 := Lib.hid h4
          obtain ⟨x0, _, x17, _⟩ := (hPR.out _ h4.bel).cells
          clear h4 cA HI
          go_wp2_with fail
          go_loopw [52] (fun i wr => ∃ j : Nat, i = .int .i64 j ∧ j ≤ x.c ∧ PnI W W.heap.size (.slice (some ⟨g, 0, none⟩) F.length c) F (prK (absF F) k ++ oneK (absH x) j) wr) (fun i _ => x.c - (intOf i).toNat)
          case atStart => exact ⟨0, rfl, Nat.zero_le _, H4.out⟩
          case round =>
            obtain ⟨j, rfl, hj, hI⟩ := hrel
            have HI := Lib.hid hI
            clear H4 hI x0 x17
            by_cases hjc : j < x.c
            · obtain ⟨s, hs⟩ : ∃ s, x.R ((x.f + j) % 5) = s := ⟨_, rfl⟩
              have hws : (absH x).2.2[j]? = some s := by rw [← hs]; exact winL_at hjc
              have hsn1 := Lib.hid (hosn.out j s hws)
              have hsb := BD.out.2 s (List.mem_of_getElem? hws)
              have cat := at_c x.blk x.e x.R x.f x.c j _ (hPR.out _ HI.out.bel) (by omega)
              rw [hs] at cat
              unfold snV at cat
              have HSB := Lib.hid hsb
              have hj0 : (0 : Int) ≤ (j : Int) := by omega
              have hj1 : (j : Int) < (x.c : Int) := by omega
              clear hs hws hsb
              go_wp2_with fail
              with_reducible refine cat.mono ?_
              rintro en w5 ⟨rfl, hb5⟩
              have H5 := Lib.hid (HI.out.later hb5)
              clear hb5 cat
              go_wp2_with fail
              have c3 := H5.out.put [s.1, s.2.1, s.2.2] 3 rfl (by simp) HSB.out (by
                have h1 := HPL.out
                have h2 := oneK_len (absH x) j
                rw [List.length_append]
                omega) ((w5.alloc (.cells #[.int .i64 s.1, .int .i64 s.2.1, .int .i64 s.2.2] 62)).alloc (.cells #[.int .i64 s.1, .int .i64 s.2.1, .int .i64 s.2.2] 3)) (w5.heap.size + 1) (((Below.refl _ _).alloc (Nat.le_refl _) _).alloc (by simp) _) (by
                have := numC_new (w5.alloc (.cells #[.int .i64 s.1, .int .i64 s.2.1, .int .i64 s.2.2] 62)) [s.1, s.2.1, s.2.2]
                rwa [World.size_alloc] at this)
              rw [List.append_assoc, show oneK (absH x) j ++ putsL [s.1, s.2.1, s.2.2] = oneK (absH x) (j + 1) from hsn1.out] at c3
              with_reducible refine c3.mono ?_
              rintro en w6 ⟨rfl, h6⟩
              have H6 := Lib.hid h6
              clear h6 c3 H5
              go_wp2_with fail
              go_roundw
              case rel => exact ⟨j + 1, by go_num, hjc, H6.out⟩
              case measure => simp [intOf]; omega
            · have hjc2 : j = x.c := by omega
              have H5 : Hid (PnI W W.heap.size (.slice (some ⟨g, 0, none⟩) F.length c) F (prK (absF F) (k + 1)) wr) := Lib.hid (by
                have h := HI.out
                rw [hend.out j (by rw [HAB.out]; omega), hsn.out] at h
                exact h)
              have hle := HLE.out
              clear hjc2 HI
              go_wp2_with fail
              exact ⟨⟨k + 1, by go_num, hkl, H5.out⟩, by simp [intOf]; omega⟩
      · have hke : (absF F).length ≤ k := by unfold absF; rw [List.length_map]; omega
        have hs := Try.Builder_String_any W.heap.size W.heap.size (prK (absF F) k) wr HI.out.bld HI.out.bel.size
        rw [prK_end _ hke] at hs
        clear hke
        go_wp2_with fail
        with_reducible refine hs.mono ?_
        rintro en w4 ⟨rfl, hb4⟩
        have H4 := Lib.hid (HI.out.bel.trans hb4)
        clear hb4
        go_wp2_with fail
        go_ret
        exact ⟨rfl, H4.out⟩
end Go.Proofs.Ytdhakekndinbeaa
