/- Merged texts. What each proves is told at its head. -/
import Derived.Test.YtjnphajkoopkgaaGreatDoorUG
import Derived.Test.YtjnphajkoopkgaaGreatDoorUE
import Derived.Test.YtjnphajkoopkgaaGreatDoorBld
/- The program's pack, Encode and Check of a batch. Condition: the table of sums. -/
namespace Go.Proofs.YtjnphajkoopkgaaGreatDoor
open Go.RowKit
set_option linter.unusedVariables false
/-- A batch's six numbers. -/
def numsI (b : BN) (n : Nat) : List Int := [b.base, b.span, b.prod, b.epoch, b.seq, (n : Int)]
def numsC (b : BN) (n : Nat) : Array Value := #[.int .i64 b.base, .int .i64 b.span, .int .i64 b.prod, .int .i64 b.epoch, .int .i64 b.seq, .int .i64 (n : Int)]
def putsL (l : List Int) : List UInt8 := l.flatMap putL
theorem putsL_snoc (l : List Int) (x : Int) : putsL (l ++ [x]) = putsL l ++ putL x := by simp [putsL]
theorem putsL_all (b : BN) (n : Nat) : putsL (numsI b n) = frontL b n := by simp [putsL, numsI, frontL]
theorem putsL_le : ∀ l : List Int, (putsL l).length ≤ l.length * 10
  | [] => by simp [putsL]
  | x :: l => by
    have h1 := putL_len x
    have h2 := putsL_le l
    have : putsL (x :: l) = putL x ++ putsL l := by simp [putsL]
    rw [this, List.length_append, List.length_cons]
    omega
theorem numsC_at (b : BN) (n k : Nat) (h : k < 6) : (numsC b n)[k]? = some (.int .i64 ((numsI b n).getD k 0)) := by
  rcases k with _ | _ | _ | _ | _ | _ | k <;> first | rfl | omega
theorem nums_take (b : BN) (n k : Nat) (h : k < 6) : (numsI b n).take (k + 1) = (numsI b n).take k ++ [(numsI b n).getD k 0] := by
  have hl : k < (numsI b n).length := by simpa [numsI] using h
  rw [List.take_succ_eq_append_getElem hl]
  simp [List.getD, List.getElem?_eq_getElem hl]
theorem nums_range {b : BN} {n : Nat} (h : numB b = true) (hn : n ≤ 50) {k : Nat} (hk : k < 6) : -1 ≤ (numsI b n).getD k 0 ∧ (numsI b n).getD k 0 ≤ 1099511627776 := by
  obtain ⟨h1, h2, h3, h4, h5⟩ := numB_range h
  rcases k with _ | _ | _ | _ | _ | _ | k <;> simp only [numsI, List.getD_cons_zero, List.getD_cons_succ] <;> omega
structure PkAt (W : World) (cs : Array Value) (B : Nat) (l : List UInt8) (w : World) : Prop where
  bld : Bld w B B l
  box : Box w W.heap.size 44 cs
  bel : Below W.heap.size W w
  lo : W.heap.size < B
  le : B < w.heap.size
section
variable {W w w' : World} {cs ns : Array Value} {B : Nat} {l m : List UInt8}
theorem PkAt.start (hbox : Box w W.heap.size 44 cs) (hbel : Below W.heap.size W w) : PkAt W cs w.heap.size [] (w.alloc (.cells #[.pointer none, .slice none 0 0] 158)) :=
  ⟨Bld.fresh w, hbox.alloc _, hbel.alloc hbel.size _, hbox.lt, by simp⟩
theorem PkAt.later (h : PkAt W cs B l w) (hb : Below w.heap.size w w') : PkAt W cs B l w' :=
  ⟨h.bld.later hb, h.box.later hb, h.bel.trans (hb.mono h.bel.size), h.lo, Nat.lt_of_lt_of_le h.le hb.size⟩
theorem PkAt.wrote (h : PkAt W cs B l w) (hb : Bld w' B B m) (hl : Below B w w') : PkAt W cs B m w' :=
  ⟨hb, h.box.below hl h.lo, h.bel.trans (hl.mono (Nat.le_of_lt h.lo)), h.lo, Nat.lt_of_lt_of_le h.le hl.size⟩
end
theorem batC_at {b : BN} {v : Value} {w : World} {g : Nat} (h : Box w g 44 (bnC b v)) : w.cell? ⟨g, 0, none⟩ = some (.int .i64 b.base) ∧ w.cell? ⟨g, 1, none⟩ = some (.int .i64 b.span) ∧ w.cell? ⟨g, 2, none⟩ = some (.int .i64 b.prod) ∧ w.cell? ⟨g, 3, none⟩ = some (.int .i64 b.epoch) ∧ w.cell? ⟨g, 4, none⟩ = some (.int .i64 b.seq) ∧ w.cell? ⟨g, 5, none⟩ = some v :=
  ⟨by rw [h.cell]; rfl, by rw [h.cell]; rfl, by rw [h.cell]; rfl, by rw [h.cell]; rfl, by rw [h.cell]; rfl, by rw [h.cell]; rfl⟩
def packV (b : BN) (L : List RX) : Value := .tuple #[.string (if batB b L = true then ⟨(bodyL b L).toArray⟩ else ⟨#[]⟩), .int .i64 (batE b L)]
theorem packV_bad {b : BN} {L : List RX} (h : batB b L = false) : packV b L = .tuple #[.string ⟨#[]⟩, .int .i64 1] := by unfold packV batE; rw [h]; rfl
theorem goodL_pl {span : Int} {L : List RX} (h : placedL span (-1) L = false) : goodL span (-1) L = false := by rw [goodL_eq, h]; rfl
set_option maxHeartbeats 16000000 in
set_option maxRecDepth 100000 in
theorem pack_c (b : BN) (A : Option Addr) (c : Nat) (L : List RX) (W : World) (h : RsIn W A L) (hlen : L.length ≤ 140737488351232) :
    Calls Tryz.prog 80 #[.agg (bnC b (.slice A L.length c))] W (Good W (packV b L)) := by
  have hbel : Below W.heap.size W (W.alloc (.cells (bnC b (.slice A L.length c)) 44)) := (Below.refl _ W).alloc (Nat.le_refl _) _
  have hbx := Box.new W 44 (bnC b (.slice A L.length c))
  have c1 := fun w => numbered_c b (.slice A L.length c) w
  have c2 := fun w hw => placed_c b A c L w hw hlen
  have HX := Lib.hid (And.intro hbel hbx)
  have CE := Lib.hid (fun w (hw : Box w W.heap.size 44 (bnC b (.slice A L.length c))) => batC_at hw)
  clear hbel hbx
  obtain ⟨res, hres⟩ : ∃ r, packV b L = r := ⟨_, rfl⟩
  have HR := Lib.hid hres
  rw [hres]
  clear hres
  obtain ⟨base, span, prod, epoch, seq⟩ := b
  cases h1 : numB ⟨base, span, prod, epoch, seq⟩ with
  | false =>
    rw [h1] at c1
    have hr : res = .tuple #[.string ⟨#[]⟩, .int .i64 1] := by rw [← HR.out, packV_bad (by unfold batB; rw [h1]; rfl)]
    subst hr
    clear h1
    obtain ⟨y0, y1, y2, y3, y4, y5⟩ := CE.out _ HX.out.2
    unfold bnC at *
    simp only at *
    go_enter Tryz.func80, Tryz.ntmps80
    go_wp2_with ((with_reducible refine (c1 _).mono ?_); rintro e w1 ⟨rfl, hb1⟩)
    go_ret2
    exact ⟨rfl, HX.out.1.trans (hb1.mono HX.out.1.size)⟩
  | true =>
    rw [h1] at c1
    cases h2 : plB span L with
    | false =>
      have hr : res = .tuple #[.string ⟨#[]⟩, .int .i64 1] := by
        rw [← HR.out, packV_bad]
        unfold batB
        unfold plB at h2
        rw [h1]
        by_cases hl : L.length ≤ 50
        · rw [decide_eq_true hl, Bool.true_and] at h2
          rw [goodL_pl h2]
          simp
        · rw [decide_eq_false hl]
          rfl
      subst hr
      simp only at c2
      rw [h2] at c2
      clear h1 h2
      obtain ⟨y0, y1, y2, y3, y4, y5⟩ := CE.out _ HX.out.2
      unfold bnC at *
      simp only at *
      go_enter Tryz.func80, Tryz.ntmps80
      go_wp2_with fail
      (with_reducible refine (c1 _).mono ?_)
      rintro e w1 ⟨rfl, hb1⟩
      have HX1 := Lib.hid (And.intro (HX.out.1.trans (hb1.mono HX.out.1.size)) (HX.out.2.later hb1))
      have hRs := h.below HX1.out.1
      clear hb1 c1
      obtain ⟨z0, z1, z2, z3, z4, z5⟩ := CE.out _ HX1.out.2
      go_wp2_with fail
      (with_reducible refine (c2 _ hRs).mono ?_)
      rintro e w2 ⟨rfl, hb2⟩
      go_wp2
      go_ret2
      exact ⟨rfl, HX1.out.1.trans (hb2.mono HX1.out.1.size)⟩
    | true =>
      have hl50 : L.length ≤ 50 := by unfold plB at h2; simp at h2; exact h2.1
      have hpl : placedL span (-1) L = true := by unfold plB at h2; simp at h2; exact h2.2
      have HNR := Lib.hid (fun k hk => nums_range (b := ⟨base, span, prod, epoch, seq⟩) (n := L.length) h1 hl50 (k := k) hk)
      have HB := Lib.hid (show batB ⟨base, span, prod, epoch, seq⟩ L = ((L.all fun x => okRec x.1) && decide ((bodyL ⟨base, span, prod, epoch, seq⟩ L).length ≤ 60000)) by unfold batB; rw [h1, decide_eq_true hl50, goodL_eq, hpl]; simp)
      simp only at c2
      rw [h2] at c2
      obtain ⟨y0, y1, y2, y3, y4, y5⟩ := CE.out _ HX.out.2
      unfold bnC at *
      simp only at *
      go_enter Tryz.func80, Tryz.ntmps80
      go_wp2_with fail
      (with_reducible refine (c1 _).mono ?_)
      rintro e w1 ⟨rfl, hb1⟩
      have HX1 := Lib.hid (And.intro (HX.out.1.trans (hb1.mono HX.out.1.size)) (HX.out.2.later hb1))
      have hRs := h.below HX1.out.1
      clear hb1 c1
      obtain ⟨z0, z1, z2, z3, z4, z5⟩ := CE.out _ HX1.out.2
      go_wp2_with fail
      (with_reducible refine (c2 _ hRs).mono ?_)
      rintro e w2 ⟨rfl, hb2⟩
      have HX2 := Lib.hid (And.intro (HX1.out.1.trans (hb2.mono HX1.out.1.size)) (HX1.out.2.later hb2))
      clear hb2 c2 hRs z0 z1 z2 z3 z4 z5 y0 y1 y2 y3 y4 y5 HX HX1
      have HS := Lib.hid (PkAt.start HX2.out.2 HX2.out.1)
      obtain ⟨y0, y1, y2, y3, y4, y5⟩ := CE.out _ HS.out.box
      go_wp2_with fail
      have H6 := Lib.hid (And.intro (HS.out.later ((Below.refl _ _).alloc (Nat.le_refl _) (.cells (numsC ⟨base, span, prod, epoch, seq⟩ L.length) 3))) (show Box ((w2.alloc (.cells #[.pointer none, .slice none 0 0] 158)).alloc (.cells (numsC ⟨base, span, prod, epoch, seq⟩ L.length) 3)) (w2.heap.size + 1) 3 (numsC ⟨base, span, prod, epoch, seq⟩ L.length) by
        have := Box.new (w2.alloc (.cells #[.pointer none, .slice none 0 0] 158)) 3 (numsC ⟨base, span, prod, epoch, seq⟩ L.length)
        rwa [World.size_alloc] at this))
      clear HS y0 y1 y2 y3 y4 y5 h1 h2 hpl
      obtain ⟨nums, hnums⟩ : ∃ l, numsI ⟨base, span, prod, epoch, seq⟩ L.length = l := ⟨_, rfl⟩
      have HTK := Lib.hid (fun k hk => nums_take ⟨base, span, prod, epoch, seq⟩ L.length k hk)
      have HAT := Lib.hid (fun k hk => numsC_at ⟨base, span, prod, epoch, seq⟩ L.length k hk)
      have HALL := Lib.hid (putsL_all ⟨base, span, prod, epoch, seq⟩ L.length)
      have HLEN : Hid (nums.length = 6) := Lib.hid (by rw [← hnums]; rfl)
      rw [hnums] at HNR HTK HAT HALL
      unfold numsC at *
      simp only at *
      clear hnums
      go_loopw [34] (fun i wr => ∃ k : Nat, i = .int .i64 k ∧ k ≤ 6 ∧ PkAt W #[.int .i64 base, .int .i64 span, .int .i64 prod, .int .i64 epoch, .int .i64 seq, .slice A L.length c] w2.heap.size (putsL (nums.take k)) wr ∧ Box wr (w2.heap.size + 1) 3 #[.int .i64 base, .int .i64 span, .int .i64 prod, .int .i64 epoch, .int .i64 seq, .int .i64 (L.length : Int)]) (fun i _ => 6 - (intOf i).toNat)
      case atStart => exact ⟨0, rfl, by decide, by simpa [putsL] using H6.out.1, H6.out.2⟩
      case round =>
        obtain ⟨k, rfl, hk6, hP, hbx⟩ := hrel
        clear H6
        by_cases hk : k < 6
        · have hcell := (hbx.cell k).trans (HAT.out k hk)
          obtain ⟨n1, n2⟩ := HNR.out k hk
          have htk := HTK.out k hk
          have hle := putsL_le (nums.take k)
          rw [List.length_take] at hle
          have hle2 : (putsL (nums.take k)).length ≤ 60 := by omega
          have hki : (k : Int) < 6 := by omega
          obtain ⟨x, hx⟩ : ∃ x, nums.getD k 0 = x := ⟨_, rfl⟩
          rw [hx] at hcell n1 n2 htk
          have cp := fun w => put_c x w (by omega) (by omega)
          have hps := put_size x
          have HT := Lib.hid htk
          have HP := Lib.hid (And.intro hP hbx)
          clear hx htk hP hbx hle
          go_wp2_with fail
          (with_reducible refine (cp _).mono ?_)
          rintro e w4 ⟨rfl, hb4⟩
          have HP4 := Lib.hid (And.intro (HP.out.1.later hb4) (HP.out.2.later hb4))
          clear hb4 HP cp
          go_wp2_with fail
          (with_reducible refine (bwrite_c _ _ _ _ _ HP4.out.1.bld (by omega) (Nat.le_of_lt HP4.out.1.le)).mono ?_)
          rintro e w5 ⟨rfl, hx1, hx2, hx3⟩
          have HP5 := Lib.hid (And.intro (HP4.out.1.wrote (m := putsL (nums.take (k + 1))) (by rw [HT.out, putsL_snoc]; exact hx1) hx2) (hx3.box HP4.out.2 (by omega) (by decide)))
          clear hx1 hx2 hx3 HP4
          go_wp2
          go_roundw
          case rel => exact ⟨k + 1, by go_num, by omega, HP5.out.1, HP5.out.2⟩
          case measure => simp [intOf]; omega
        · have hk0 : k = 6 := by omega
          subst hk0
          rw [List.take_of_length_le (by rw [HLEN.out]; exact Nat.le_refl _), HALL.out] at hP
          have HP := Lib.hid hP
          clear hP hbx HNR HTK HAT HALL HLEN HX2
          obtain ⟨y0, y1, y2, y3, y4, y5⟩ := CE.out _ HP.out.box
          go_wp2_with fail
          have hfl := putsL_le (numsI ⟨base, span, prod, epoch, seq⟩ L.length)
          rw [putsL_all] at hfl
          have hfl2 : (frontL ⟨base, span, prod, epoch, seq⟩ L.length).length ≤ 60 := by
            have : (numsI ⟨base, span, prod, epoch, seq⟩ L.length).length = 6 := rfl
            omega
          have HFB := Lib.hid (show bodyL ⟨base, span, prod, epoch, seq⟩ L = frontL ⟨base, span, prod, epoch, seq⟩ L.length ++ encsL L from rfl)
          obtain ⟨F, hF⟩ : ∃ F, frontL ⟨base, span, prod, epoch, seq⟩ L.length = F := ⟨_, rfl⟩
          rw [hF] at HFB hfl2 HP
          clear hF hfl y0 y1 y2 y3 y4 y5
          go_loopw [45] (fun i wr => ∃ j : Nat, i = .int .i64 j ∧ j ≤ L.length ∧ PkAt W #[.int .i64 base, .int .i64 span, .int .i64 prod, .int .i64 epoch, .int .i64 seq, .slice A L.length c] w2.heap.size (F ++ encsL (L.take j)) wr ∧ ∀ x ∈ L.take j, okRec x.1 = true) (fun i _ => L.length - (intOf i).toNat)
          case atStart => exact ⟨0, rfl, Nat.zero_le _, by simpa [encsL] using HP.out, by simp⟩
          case round =>
            obtain ⟨j, rfl, hjl, hQ, hall⟩ := hrel
            clear HP
            by_cases hj : j < L.length
            · obtain ⟨x, hx⟩ : ∃ x, L[j]? = some x := ⟨_, List.getElem?_eq_getElem hj⟩
              obtain ⟨bb, off, rfl, hlt, hcs⟩ := (h.below hQ.bel) (by omega)
              obtain ⟨⟨x0, x1, x2, x3, x4, x5, x6⟩, hRI⟩ := hcs j x hx
              have hji : (j : Int) < (L.length : Int) := by omega
              have hal : Below wr.heap.size wr (wr.alloc (.cells (recC x.1 x.2.1 x.2.2) 85)) := (Below.refl _ wr).alloc (Nat.le_refl _) _
              have ce := enc_c x.1 x.2.1 x.2.2 (wr.alloc (.cells (recC x.1 x.2.1 x.2.2) 85)) (hRI.below hal)
              have HQ := Lib.hid (hQ.later hal)
              have HALL := Lib.hid hall
              have hle := encsL_le (L.take j) hall
              rw [List.length_take] at hle
              have hmn : min j L.length ≤ 50 := by omega
              have hle2 : (F ++ encsL (L.take j)).length ≤ 1115060 := by rw [List.length_append]; omega
              have hxL : x ∈ L := List.mem_of_getElem? hx
              have HTK := Lib.hid (encsL_take_succ hx)
              have HT2 := Lib.hid (show L.take (j + 1) = L.take j ++ [x] by rw [List.take_succ_eq_append_getElem hj, (List.getElem?_eq_some_iff.1 hx).2])
              clear hcs hal hQ hall hle hRI hlt
              cases hok : okRec x.1 with
              | false =>
                rw [if_neg (by rw [hok]; decide), show recE x.1 = 1 by unfold recE; rw [hok]; rfl] at ce
                have hr : res = .tuple #[.string ⟨#[]⟩, .int .i64 1] := by
                  rw [← HR.out, packV_bad]
                  rw [HB.out, show (L.all fun x => okRec x.1) = false from by rw [List.all_eq_false]; exact ⟨x, hxL, by rw [hok]; decide⟩]
                  rfl
                subst hr
                clear hok
                unfold recV recC at *
                go_wp2_with fail
                (with_reducible refine ce.mono ?_)
                rintro e w6 ⟨rfl, hb6⟩
                have HQ6 := Lib.hid (HQ.out.later hb6)
                clear hb6 HQ ce
                go_wp2_with fail
                go_ret2
                exact ⟨rfl, HQ6.out.bel⟩
              | true =>
                rw [if_pos hok, show recE x.1 = 0 by unfold recE; rw [hok]; rfl] at ce
                have hes : (encR x.1).size ≤ 22300 := encL_le hok
                have HOK := Lib.hid hok
                clear hok
                have hel : (encR x.1).data.toList = encL x.1 := by unfold encR; simp
                have HEL := Lib.hid hel
                clear hel
                generalize encR x.1 = ex at *
                unfold recV recC at *
                go_wp2_with fail
                (with_reducible refine ce.mono ?_)
                rintro e w6 ⟨rfl, hb6⟩
                have HQ6 := Lib.hid (HQ.out.later hb6)
                clear hb6 HQ ce
                go_wp2_with fail
                (with_reducible refine (bwrite_c _ _ _ _ _ HQ6.out.bld (by omega) (Nat.le_of_lt HQ6.out.le)).mono ?_)
                rintro e w7 ⟨rfl, hx1, hx2, hx3⟩
                have HQ7 := Lib.hid (HQ6.out.wrote (m := F ++ encsL (L.take (j + 1))) (by rw [HTK.out, ← HEL.out, ← List.append_assoc]; exact hx1) hx2)
                clear hx1 hx2 hx3 HQ6
                go_wp2
                go_roundw
                case rel =>
                  repeat apply Exists.intro
                  exact ⟨⟨j + 1, by go_num, hj, HQ7.out, fun y hy => by rw [HT2.out, List.mem_append] at hy; rcases hy with hy | hy; exact HALL.out y hy; simp at hy; subst hy; exact HOK.out⟩, rfl⟩
                case measure => simp [intOf]; omega
            · have hje : j = L.length := by omega
              subst hje
              rw [List.take_of_length_le (Nat.le_refl _), ← HFB.out] at hQ
              rw [List.take_of_length_le (Nat.le_refl _)] at hall
              have hgood : (L.all fun x => okRec x.1) = true := List.all_eq_true.2 hall
              have HB2 : Hid (batB ⟨base, span, prod, epoch, seq⟩ L = decide ((bodyL ⟨base, span, prod, epoch, seq⟩ L).length ≤ 60000)) := Lib.hid (by rw [HB.out, hgood]; rfl)
              have hll := Lib.byteCells_length (bodyL ⟨base, span, prod, epoch, seq⟩ L)
              have cl := Tryz.Builder_Len w2.heap.size w2.heap.size (Lib.byteCells (bodyL ⟨base, span, prod, epoch, seq⟩ L)) wr hQ.bld
              rw [hll] at cl
              have cs := Tryz.Builder_String_any w2.heap.size w2.heap.size (bodyL ⟨base, span, prod, epoch, seq⟩ L) wr hQ.bld (Nat.le_of_lt hQ.le)
              have HQ := Lib.hid hQ
              clear hll hQ hall hgood HB
              by_cases q6 : (bodyL ⟨base, span, prod, epoch, seq⟩ L).length ≤ 60000
              · have hr : res = .tuple #[.string ⟨(bodyL ⟨base, span, prod, epoch, seq⟩ L).toArray⟩, .int .i64 0] := by
                  rw [← HR.out]
                  unfold packV batE
                  rw [if_pos (by rw [HB2.out]; exact decide_eq_true q6), if_pos (by rw [HB2.out]; exact decide_eq_true q6)]
                subst hr
                generalize bodyL ⟨base, span, prod, epoch, seq⟩ L = bd at *
                go_wp2_with fail
                (with_reducible refine cl.mono ?_)
                rintro e w6 ⟨rfl, hw⟩
                subst hw
                go_wp2_with fail
                (with_reducible refine cs.mono ?_)
                rintro e w7 ⟨rfl, hb7⟩
                have HB7 := Lib.hid (HQ.out.bel.trans (hb7.mono (Nat.le_of_lt HQ.out.lo)))
                clear hb7 cs cl
                go_wp2_with fail
                go_ret2
                exact ⟨rfl, HB7.out⟩
              · have hr : res = .tuple #[.string ⟨#[]⟩, .int .i64 1] := by
                  rw [← HR.out, packV_bad]
                  rw [HB2.out]
                  exact decide_eq_false q6
                subst hr
                generalize bodyL ⟨base, span, prod, epoch, seq⟩ L = bd at *
                go_wp2_with fail
                (with_reducible refine cl.mono ?_)
                rintro e w6 ⟨rfl, hw⟩
                subst hw
                go_wp2_with fail
                go_ret2
                exact ⟨rfl, HQ.out.bel⟩
end Go.Proofs.YtjnphajkoopkgaaGreatDoor
