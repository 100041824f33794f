/- Merged texts. What each proves is told at its head. -/
import Derived.Test.YtjnphajkoopkgaaGreatDoorTK
/- segment: the document's Open: by contracts. No condition but that the file is not too long. -/
namespace Go.Proofs.YtjnphajkoopkgaaGreatDoor
open Go.RowKit
set_option linter.unusedVariables false
def GotRo (W : World) (p : Nat) (a : Dk.Ab) (n : ByteArray) (base : Int) (w : World) (e : Ending) (w' : World) : Prop :=
 ∃ q M B d, e = .returned (.tuple #[sp q, .int .i64 0]) ∧ RD W p q n base (opA a n base) M B d w' ∧ M.map BX.told = opN a n base ∧ Off (KS W w) w w'
theorem btsR_offD {w w' : World} {base c : Nat} {A : Option Addr} {L : List BX} {T : Nat → Prop} (h : BtsR w base (.slice A L.length c) L) (ho : Off T w w') (h1 : ∀ k, Ix.blk A k → ¬ T k) (h2 : ∀ k, T k → ¬ TyB RcT w k) : BtsR w' base (.slice A L.length c) L :=
 ⟨own_off h.row ho (fun k hk => h1 k (own_blk hk)), fun x hx => rowR_off (h.recs x hx) ho h2⟩
/-- An Open under way: k batches are taken up; the scan's list stands apart. -/
def RoS (W w0 w2 : World) (p q : Nat) (n : ByteArray) (base : Int) (a : Dk.Ab) (N : List BR) (A : Option Addr) (c : Nat) (L : List BX) (k : Nat) (w : World) : Prop :=
 ∃ M' B' d', RD W p q n base a M' B' d' w ∧ M'.map BX.told = N.take k ∧ Below w0.heap.size w0 w ∧ (∀ j, Ix.blk B' j → w2.heap.size ≤ j) ∧ BtsR w W.heap.size (.slice A L.length c) L ∧ (∀ j, Ix.blk A j → j < w2.heap.size) ∧ w0.heap.size ≤ q ∧ w0.heap.size ≤ w2.heap.size ∧ w2.heap.size ≤ w.heap.size
theorem RoS.later {W w0 w2 w w' : World} {p q : Nat} {n : ByteArray} {base : Int} {a : Dk.Ab} {N : List BR} {A : Option Addr} {c : Nat} {L : List BX} {k : Nat} (h : RoS W w0 w2 p q n base a N A c L k w) (hb : Below w.heap.size w w') : RoS W w0 w2 p q n base a N A c L k w' := by
 obtain ⟨M', B', d', h1, h2, h3, h4, h5, h6, h7, h8, h9⟩ := h
 exact ⟨M', B', d', h1.later hb, h2, h3.trans (hb.mono h3.size), h4, h5.later hb, h6, h7, h8, Nat.le_trans h9 hb.size⟩
theorem RoS.next {W w0 w2 w w' : World} {p q : Nat} {n : ByteArray} {base : Int} {a : Dk.Ab} {N : List BR} {A B' : Option Addr} {c d' b5 d5 : Nat} {L M' : List BX} {k : Nat} {x : BX} (hr : RD W p q n base a M' B' d' w) (ht : M'.map BX.told = N.take k) (hb : Below w0.heap.size w0 w) (h4 : ∀ j, Ix.blk B' j → w2.heap.size ≤ j) (h5 : BtsR w W.heap.size (.slice A L.length c) L) (h6 : ∀ j, Ix.blk A j → j < w2.heap.size) (h7 : w0.heap.size ≤ q) (h8 : w0.heap.size ≤ w2.heap.size) (h9 : w2.heap.size ≤ w.heap.size)
  (hx : N[k]? = some x.told) (hg : batB x.1 x.2.1 = true) (hI : RgIs w' W.heap.size p q n base (M' ++ [x]) (some ⟨b5, 0, none⟩) d5) (ho : Off (fun k => k = q ∨ Ix.blk B' k) w w') (h0 : Ix.blk B' b5 ∨ w.heap.size ≤ b5) : RoS W w0 w2 p q n base a N A c L (k + 1) w' := by
 have hlow : ∀ j, (j = q ∨ Ix.blk B' j) → w0.heap.size ≤ j := fun j hj => by
  rcases hj with rfl | hj
  ·
   exact h7
  ·
   exact Nat.le_trans h8 (h4 j hj)
 have tq : TyB [53] w q := .box hr.rg.box (List.mem_singleton.2 rfl)
 have tb : ∀ j, Ix.blk B' j → TyB [44] w j := fun j hj => .row hr.rg.all.row (row_blk hr.rg.all.row hj) (List.mem_singleton.2 rfl)
 refine ⟨M' ++ [x], _, d5, hr.longer hI ho hg, ?_, hb.trans (ho.below hb.size hlow), fun j hj => ?_, btsR_offD h5 ho (fun j hj hT => ?_) (fun j hT hr2 => ?_), h6, h7, h8, Nat.le_trans h9 ho.size⟩
 ·
  rw [List.map_append, ht, List.take_add_one, hx]
  rfl
 ·
  obtain ⟨g, hg1, hg2⟩ := hj
  injection hg1 with hg1
  subst hg1
  rw [← hg2]
  rcases h0 with h0 | h0
  ·
   exact h4 _ h0
  ·
   exact Nat.le_trans h9 h0
 ·
  rcases hT with rfl | hT
  ·
   exact (TyB.row h5.row (row_blk h5.row hj) (List.mem_singleton.2 rfl) : TyB [44] w _).apart tq (by decide)
  ·
   have h1 := h6 j hj
   have h2 := h4 j hT
   omega
 ·
  rcases hT with rfl | hT
  ·
   exact hr2.apart tq (by decide)
  ·
   exact hr2.apart (tb j hT) (by decide)
set_option maxHeartbeats 16000000 in
set_option maxRecDepth 100000 in
theorem ropen_c (W w : World) (p : Nat) (a : Dk.Ab) (n : ByteArray) (base : Int) (hk : Dk.Kd.KIs w p a (KS W w)) (hb : Below W.heap.size W w) (ha : Dk.Kd.AbOk a) (hlen : a.L.length ≤ 1000000) (hup : Dk.upA a = true) (hsz : (fileT a n).size ≤ 4194304) :
  Calls Tryz.prog 32 #[Dk.dp p, .string n, .int .i64 base] w (GotRo W p a n base w) := by
 have crd := Dk.Kd.kread_c p a (KS W w) n w hk ha hlen
 have hsee : Dk.seeE a n.data.toList = 0 ∨ Dk.seeE a n.data.toList = 6 := by unfold Dk.seeE; rw [if_pos hup]; split <;> simp
 have hrd : (⟨(Dk.readV a n.data.toList).toArray⟩ : ByteArray) = fileT a n := rfl
 rw [hrd] at crd
 have HOA : Hid (opA a n base = if lenN (opN a n base) < (fileT a n).size then Dk.cutA a n.data.toList (lenN (opN a n base) : Int) else a) := Lib.hid rfl
 have HON : Hid (opN a n base = followN base (scanG (fileT a n) ((fileT a n).size + 1) 0).1) := Lib.hid rfl
 have HCT := Lib.hid (fun (k : Nat) (hlt : k < (fileT a n).size) => cut_ok hup hlt)
 have csc := fun v => rscan5_c (fileT a n) v (by omega)
 have CCT := Lib.hid (fun v (hv : Dk.Kd.KIs v p a (KS W v)) (hs : W.heap.size ≤ v.heap.size) (k : Int) => (Dk.Kd.kcut_c p a (KS W v) n k v hv ha hlen).mono (fun _ _ hd => kdoes_out hs hd))
 have HNEW : Hid (∀ w1, w1 = w.alloc (.cells #[.pointer (some ⟨p, 0, none⟩), .string n, .int .i64 base, .slice none 0 0] 53) → RD W p w.heap.size n base a [] none 0 w1 ∧ Below w.heap.size w w1) := Lib.hid (by
  rintro w1 rfl
  have hA : Below w.heap.size w (w.alloc (.cells #[.pointer (some ⟨p, 0, none⟩), .string n, .int .i64 base, .slice none 0 0] 53)) := (Below.refl _ _).alloc (Nat.le_refl _) _
  exact ⟨⟨kis_later hk hA, ⟨Box.new _ _ _, BtsR.nil _ _, hb.size⟩, hb.trans (hA.mono hb.size), fun x hx => by cases hx⟩, hA⟩)
 have HSF := Lib.hid (scan_few hsz)
 have HGD := Lib.hid (scan_good (s := fileT a n) ((fileT a n).size + 1) 0)
 have HWS := Lib.hid hb.size
 clear hrd hk hb ha hup hsz
 unfold Dk.dp at *
 generalize fileT a n = t at *
 generalize hN : (scanG t (t.size + 1) 0).1 = N at *
 generalize (scanG t (t.size + 1) 0).2 = z at *
 generalize Dk.seeE a n.data.toList = se at *
 clear hN
 go_enter Tryz.func32, Tryz.ntmps32
 go_wp2_with fail
 (with_reducible refine crd.mono ?_)
 rintro e w0 ⟨rfl, hw⟩
 have hw' := hw.symm
 subst hw'
 clear crd hw
 rcases hsee with rfl | rfl
 all_goals
  go_wp2_with fail
  (with_reducible refine (csc _).mono ?_)
  rintro e w2 ⟨M, A, c, hM, rfl, hbt, hb2⟩
  obtain ⟨hnew, hb1⟩ := HNEW.out _ rfl
  have hml : M.length = N.length := by rw [← hM, List.length_map]
  have hbt2 := hbt.base (Nat.le_trans HWS.out hb1.size)
  have hq2 := hb1.trans (hb2.mono hb1.size)
  have H0 : Hid (RoS W w w2 p w.heap.size n base a N A c M 0 w2) := Lib.hid ⟨[], none, 0, hnew.later hb2, rfl, hq2, fun j hj => (by obtain ⟨g, hg, _⟩ := hj; cases hg), hbt2, fun j hj => (hbt2.row.lt j (row_blk hbt2.row hj)).2, Nat.le_refl _, hq2.size, Nat.le_refl _⟩
  have HM := Lib.hid hM
  have HL := Lib.hid hml
  have hm5 : M.length ≤ 600000 := by rw [hml]; exact HSF.out.1
  clear csc hb2 hbt hM hml hnew hb1 hbt2 hq2
  go_wp2_with fail
  go_loopw [13] (fun i wr => ∃ k : Nat, i = .int .i64 k ∧ k ≤ M.length ∧ followN base N = N.take k ++ followN (endN base (N.take k)) (N.drop k) ∧ RoS W w w2 p w.heap.size n base a N A c M k wr) (fun i _ => M.length - (intOf i).toNat)
  case atStart => exact ⟨0, rfl, Nat.zero_le _, rfl, H0.out⟩
  case round =>
   obtain ⟨k, rfl, hk, hf, hS⟩ := hrel
   clear H0
   have HS := Lib.hid hS
   obtain ⟨M', B', d', hrd, htd, hbw, hB4, hB5, hB6, hB7, hB8, hB9⟩ := hS
   have HRD := Lib.hid hrd
   have HBW := Lib.hid hbw
   have hle : M'.length ≤ k := by have h1 := congrArg List.length htd; rw [List.length_map, List.length_take] at h1; omega
   have HLE : Hid (M'.length ≤ 600000) := Lib.hid (by omega)
   by_cases hkl : k < M.length
   ·
    obtain ⟨x, hx⟩ : ∃ x, M[k]? = some x := ⟨_, List.getElem?_eq_getElem hkl⟩
    have hxm := List.mem_of_getElem? hx
    have hgood : ∀ y ∈ M, batB y.1 y.2.1 = true := fun y hy => by
     have h1 : y.told ∈ N := by rw [← HM.out]; exact List.mem_map_of_mem hy
     exact (batB_congr y.1 (toRX_map _)).symm.trans (HGD.out.1 _ h1)
    have hbs := row_bsin hB5.row (fun y hy => (hB5.recs y hy).rsin (bat_recs (hgood y hy)).2)
    obtain ⟨b, off, rfl, hbl, hca⟩ := hbs (by omega)
    obtain ⟨⟨z0, z1, z2, z3, z4, z5⟩, hrs⟩ := hca k x hx
    have HXG := Lib.hid (hgood x hxm)
    have HQ := Lib.hid (show N[k]? = some x.told by rw [← HM.out, List.getElem?_map, hx]; rfl)
    have HF := Lib.hid hf
    have HPK := Lib.hid (And.intro htd (And.intro hB4 (And.intro hB5 (And.intro hB6 (And.intro hB7 (And.intro hB8 hB9))))))
    have HRR := Lib.hid (hB5.recs x hxm)
    have cend := fun v (hv : Below wr.heap.size wr v) => rd_end (hrd.later hv) (by omega)
    rw [htd] at cend
    unfold sp at cend
    have hki : (k : Int) < (M.length : Int) := by omega
    have hk0 : (0 : Int) ≤ (k : Int) := by omega
    obtain ⟨⟨bs, span, prod, epoch, seq⟩, R, RA, rc⟩ := x
    dsimp only at *
    generalize hen : endN base (N.take k) = en at *
    have HEN := Lib.hid hen
    have hs : wr.cell? ⟨b, off + k * 6, none⟩ = some (.int .i64 bs) ∧ b < wr.heap.size ∧ Below wr.heap.size wr wr := ⟨z0, hbl, Below.refl _ _⟩
    have hstep := fun (v v' : World) (h : v.cell? ⟨b, off + k * 6, none⟩ = some (.int .i64 bs) ∧ b < v.heap.size ∧ Below wr.heap.size wr v) (hb : Below v.heap.size v v') => (⟨(hb.cell (p := ⟨b, off + k * 6, none⟩) h.2.1).trans h.1, Nat.lt_of_lt_of_le h.2.1 hb.size, h.2.2.trans (hb.mono h.2.2.size)⟩ : v'.cell? ⟨b, off + k * 6, none⟩ = some (.int .i64 bs) ∧ b < v'.heap.size ∧ Below wr.heap.size wr v')
    clear hbs hca hx hxm hgood hrs hrd htd hbw hB4 hB5 hB6 hB7 hB8 hB9 hf hen hle
    generalize hk6 : k * 6 = k6 at *
    by_cases hc : bs < en
    ·
     have HC := Lib.hid hc
     go_upto_region 9 with fail
     go_region_held3 (fun v => v.cell? ⟨b, off + k6, none⟩ = some (.int .i64 bs) ∧ b < v.heap.size ∧ Below wr.heap.size wr v) (first | exact hstep _ _ hs ((Below.refl _ _).drew) | exact hstep _ _ (by assumption) (by assumption))
      (first | ((with_reducible refine (cend _ (by first | exact hs.2.2.trans ((Below.refl _ _).drew.mono hs.2.2.size))).mono ?_); rintro e w3 ⟨rfl, hb3⟩))
     all_goals
      have hw3 : Below wr.heap.size wr w3 := (Below.refl _ _).drew.trans hb3
      have HRD := Lib.hid (HRD.out.later hw3)
      have HBW := Lib.hid (HBW.out.trans (hw3.mono HBW.out.size))
      have HTD : Hid (M'.map BX.told = opN a n base) := Lib.hid (by rw [HPK.out.1, HON.out, follow_stop HQ.out (by rw [HEN.out]; exact HF.out) (show bs < _ by rw [HEN.out]; exact HC.out)])
      clear hs hstep cend hb3 z0 z1 z2 z3 z4 z5 hw3
      have HCS := Lib.hid (fun v (hv : Below w3.heap.size w3 v) => rd_size (HRD.out.later hv) HLE.out)
      have csz := HCS.out
      rw [HTD.out] at csz
      unfold sp at csz
      have HOA2 := Lib.hid HOA.out
      generalize hln : lenN (opN a n base) = ln at *
      have cz1 := csz w3 (Below.refl _ _)
      have CSZ := Lib.hid csz
      clear csz HCS
      go_wp2_with fail
      (with_reducible refine cz1.mono ?_)
      rintro e w6 ⟨rfl, hb6⟩
      have HB6 := Lib.hid hb6
      have cz2 := CSZ.out w6 hb6
      clear cz1 hb6
      by_cases hlt : ln < t.size
      ·
       have hlti : (ln : Int) < (t.size : Int) := by omega
       have hct := HCT.out ln hlt
       have HNL := Lib.hid hlt
       clear hlt
       go_wp2_with fail
       (with_reducible refine cz2.mono ?_)
       rintro e w7 ⟨rfl, hb7⟩
       have hb67 := HB6.out.trans (hb7.mono HB6.out.size)
       have hrd7 := HRD.out.later hb67
       have HRD7 := Lib.hid hrd7
       have HB07 := Lib.hid (HBW.out.trans (hb67.mono HBW.out.size))
       have cc := CCT.out w7 hrd7.kd hrd7.bel.size (ln : Int)
       rw [hct] at cc
       clear cz2 hb7 hb67 hct hrd7
       go_wp2_with fail
       (with_reducible refine cc.mono ?_)
       rintro e w8 ⟨rfl, hk8, hof8⟩
       have HF := Lib.hid (And.intro (HRD7.out.disk hk8 hof8) (show Off (KS W w) w w8 from (Off.of_below (KS W w) HB07.out).trans hof8 (fun k hk h => ks_old HB07.out hk h)))
       clear hk8 hof8 cc
       go_wp2_with fail
       go_ret2
       refine ⟨_, M', B', d', rfl, ?_, HTD.out, HF.out.2⟩
       rw [HOA2.out, if_pos HNL.out]
       exact HF.out.1
      ·
       have hlti : ¬ (ln : Int) < (t.size : Int) := by omega
       have HNL := Lib.hid hlt
       clear hlt cz2
       go_wp2_with fail
       go_ret2
       refine ⟨_, M', B', d', rfl, ?_, HTD.out, Off.of_below _ (HBW.out.trans (HB6.out.mono HBW.out.size))⟩
       rw [HOA2.out, if_neg HNL.out]
       exact HRD.out.later HB6.out
    ·
     have hcl : en ≤ bs := by omega
     have HC := Lib.hid hcl
     go_upto_region 9 with fail
     go_region_held3 (fun v => v.cell? ⟨b, off + k6, none⟩ = some (.int .i64 bs) ∧ b < v.heap.size ∧ Below wr.heap.size wr v) (first | exact hstep _ _ hs ((Below.refl _ _).drew) | exact hstep _ _ (by assumption) (by assumption))
      (first | ((with_reducible refine (cend _ (by first | exact hs.2.2.trans ((Below.refl _ _).drew.mono hs.2.2.size))).mono ?_); rintro e w3 ⟨rfl, hb3⟩))
     all_goals
      have hw3 : Below wr.heap.size wr w3 := (Below.refl _ _).drew.trans hb3
      have hd3 := (HRD.out.later hw3).later (Below.refl _ _).drew
      obtain ⟨b5, d5, w5, r5, hbx5, hI5, hO5, h05⟩ := hd3.rg.longer hd3.bel.size ((⟨bs, span, prod, epoch, seq⟩, R, RA, rc) : BX) ((HRR.out.later hw3).later (Below.refl _ _).drew) (by have := HLE.out; omega)
      obtain ⟨y0, y1, y2, y3, hql⟩ := (HRD.out.later hw3).rg.cells
      have hbl3 : b < w3.heap.size := Nat.lt_of_lt_of_le hbl hw3.size
      have hcc := fun i => hw3.cell (p := ⟨b, i, none⟩) hbl
      have x0 := (hcc _).trans z0
      have x1 := (hcc _).trans z1
      have x2 := (hcc _).trans z2
      have x3 := (hcc _).trans z3
      have x4 := (hcc _).trans z4
      have x5 := (hcc _).trans z5
      have hq4 : w5.cell? ⟨w.heap.size, 3, none⟩ = some (.slice B' M'.length d') := hbx5.cell 3
      have hf4 := hbx5.frozen 3
      have hq5 := hbx5.lt
      have HFT := Lib.hid (follow_take HQ.out (by rw [HEN.out]; exact HF.out) (show ¬ bs < _ by rw [HEN.out]; have := HC.out; omega))
      have HNX : Hid (RoS W w w2 p w.heap.size n base a N (some ⟨b, off, none⟩) c M (k + 1) (w5.setCell ⟨w.heap.size, 3, none⟩ (.slice (some ⟨b5, 0, none⟩) (M'.length + 1) d5))) := Lib.hid (by
       obtain ⟨p1, p2, p3, p4, p5, p6, p7⟩ := HPK.out
       have hw3d : Below wr.heap.size wr w3.drew := hw3.trans ((Below.refl _ _).drew.mono hw3.size)
       exact RoS.next hd3 p1 (HBW.out.trans (hw3d.mono HBW.out.size)) p2 (p3.later hw3d) p4 p5 p6 (Nat.le_trans p7 hw3d.size) HQ.out HXG.out hI5 hO5 h05)
      unfold bnC at r5
      dsimp only at r5
      clear hs hstep cend hb3 z0 z1 z2 z3 z4 z5 hw3 hd3 hbx5 hI5 hO5 h05 hcc HRR
      go_upto_region 10 with fail
      go_region_law (refine step_append_run rfl (.tmp 56) (.tmp 61) 51 rfl (.slice B' M'.length d') (.slice (some ⟨w3.heap.size, 0, none⟩) 1 1) (.slice (some ⟨b5, 0, none⟩) (M'.length + 1) d5) (by simp [Act.eval]) (by simp [Act.eval]) r5 ?_)
      all_goals
       clear x0 x1 x2 x3 x4 x5 y0 y1 y2 y3 hq4 hf4 hq5 r5 hql hbl3
       go_wp2_with fail
       go_roundw
       case rel => exact ⟨k + 1, by go_num, hkl, HFT.out, HNX.out⟩
       case measure => simp [intOf]; omega
   ·
    have hki : ¬ (k : Int) < (M.length : Int) := by omega
    have hkN : N.take k = N := List.take_of_length_le (by have := HL.out; omega)
    have hdr : N.drop k = [] := List.drop_of_length_le (by have := HL.out; omega)
    have hf2 : followN base N = N := by rw [hf, hdr, hkN]; show N ++ [] = N; rw [List.append_nil]
    have HTD : Hid (M'.map BX.told = opN a n base) := Lib.hid (by rw [htd, hkN, HON.out, hf2])
    clear hrd htd hbw hB4 hB5 hB6 hB7 hB8 hB9 hf hkN hdr hf2 hle
    have HCS := Lib.hid (fun v (hv : Below wr.heap.size wr v) => rd_size (HRD.out.later hv) HLE.out)
    have csz := HCS.out
    rw [HTD.out] at csz
    unfold sp at csz
    have HOA2 := Lib.hid HOA.out
    generalize hln : lenN (opN a n base) = ln at *
    have cz1 := csz wr (Below.refl _ _)
    have CSZ := Lib.hid csz
    clear csz HCS
    go_wp2_with fail
    (with_reducible refine cz1.mono ?_)
    rintro e w6 ⟨rfl, hb6⟩
    have HB6 := Lib.hid hb6
    have cz2 := CSZ.out w6 hb6
    clear cz1 hb6
    by_cases hlt : ln < t.size
    ·
     have hlti : (ln : Int) < (t.size : Int) := by omega
     have hct := HCT.out ln hlt
     have HNL := Lib.hid hlt
     clear hlt
     go_wp2_with fail
     (with_reducible refine cz2.mono ?_)
     rintro e w7 ⟨rfl, hb7⟩
     have hb67 := HB6.out.trans (hb7.mono HB6.out.size)
     have hrd7 := HRD.out.later hb67
     have HRD7 := Lib.hid hrd7
     have HB07 := Lib.hid (HBW.out.trans (hb67.mono HBW.out.size))
     have cc := CCT.out w7 hrd7.kd hrd7.bel.size (ln : Int)
     rw [hct] at cc
     clear cz2 hb7 hb67 hct hrd7
     go_wp2_with fail
     (with_reducible refine cc.mono ?_)
     rintro e w8 ⟨rfl, hk8, hof8⟩
     have HF := Lib.hid (And.intro (HRD7.out.disk hk8 hof8) (show Off (KS W w) w w8 from (Off.of_below (KS W w) HB07.out).trans hof8 (fun k hk h => ks_old HB07.out hk h)))
     clear hk8 hof8 cc
     go_wp2_with fail
     go_ret2
     refine ⟨_, M', B', d', rfl, ?_, HTD.out, HF.out.2⟩
     rw [HOA2.out, if_pos HNL.out]
     exact HF.out.1
    ·
     have hlti : ¬ (ln : Int) < (t.size : Int) := by omega
     have HNL := Lib.hid hlt
     clear hlt cz2
     go_wp2_with fail
     go_ret2
     refine ⟨_, M', B', d', rfl, ?_, HTD.out, Off.of_below _ (HBW.out.trans (HB6.out.mono HBW.out.size))⟩
     rw [HOA2.out, if_neg HNL.out]
     exact HRD.out.later HB6.out
end Go.Proofs.YtjnphajkoopkgaaGreatDoor
