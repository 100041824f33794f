/- Merged texts. What each proves is told at its head. -/
import Derived.Test.YtjnphajkoopkgaaGreatDoorTN
import Derived.Test.YtjnphajkoopkgaaGreatDoorUW
namespace Go.Proofs.YtjnphajkoopkgaaGreatDoor
open Go.RowKit
set_option linter.unusedVariables false
theorem sq_good {W w : World} {p q : Nat} {n : ByteArray} {base : Int} {a : Dk.Ab} {N : List BR} (h : SQ W p q n base a N w) : (∀ x ∈ N, goodR x) ∧ 0 ≤ endN base N ∧ endN base N ≤ 1099511627826 := by
 obtain ⟨s, h1, h2, h3, h4⟩ := h
 have hg : ∀ x ∈ N, goodR x := by
  rw [← h4]
  exact good_told h1.ok
 refine ⟨hg, ?_⟩
 unfold endN
 cases hl : N.getLast? with
 | none =>
  have := h1.ok.base
  show 0 ≤ base ∧ base ≤ _
  omega
 | some x =>
  obtain ⟨⟨g1, g2⟩, g3, g4⟩ := bat_num (hg x (List.mem_of_getLast? hl))
  show 0 ≤ x.1.base + x.1.span ∧ x.1.base + x.1.span ≤ _
  omega
theorem mod_three (n : Int) (h : 0 ≤ n) : 0 ≤ n.tmod 3 ∧ n.tmod 3 ≤ 2 := by
 have h1 := Int.tmod_lt_of_pos n (show (0 : Int) < 3 by decide)
 have h2 := Int.tmod_nonneg 3 h
 omega
theorem box_rdf {W w w' : World} {p q g g0 : Nat} {n : ByteArray} {base : Int} {a : Dk.Ab} {M : List BX} {B : Option Addr} {d : Nat} {cs : Array Value} (h : RD W p q n base a M B d w) (hb : Box w g 44 cs) (hB : ∀ k, Ix.blk B k → k < g0) (hg : g0 ≤ g) (ho : Off (RdF W w q B) w w') : Box w' g 44 cs := by
 have ty : TyB [44] w g := .box hb (List.mem_singleton.2 rfl)
 refine hb.off ho (fun hk => ?_)
 rcases hk with hk | rfl | hk
 ·
  exact hk.2.apart ty (by decide)
 ·
  exact (TyB.box h.rg.box (List.mem_singleton.2 rfl) : TyB [53] w _).apart ty (by decide)
 ·
  have := hB g hk
  omega
theorem s0_keep {w w' : World} {P g : Nat} {u v : Value} (h : w.cell? ⟨P, 3, none⟩ = some u ∧ w.cell? ⟨g, 0, none⟩ = some v ∧ w.frozen? ⟨g, 0, none⟩ = false ∧ P < w.heap.size ∧ g < w.heap.size) (hb : Below w.heap.size w w') : w'.cell? ⟨P, 3, none⟩ = some u ∧ w'.cell? ⟨g, 0, none⟩ = some v ∧ w'.frozen? ⟨g, 0, none⟩ = false ∧ P < w'.heap.size ∧ g < w'.heap.size :=
 ⟨(hb.cell (p := ⟨P, 3, none⟩) h.2.2.2.1).trans h.1, (hb.cell (p := ⟨g, 0, none⟩) h.2.2.2.2).trans h.2.1, (World.frozen?_of_block (hb.block g h.2.2.2.2)).trans h.2.2.1, Nat.lt_of_lt_of_le h.2.2.2.1 hb.size, Nat.lt_of_lt_of_le h.2.2.2.2 hb.size⟩
theorem s0_cells {w : World} {P p kp q kq g : Nat} {E span prod epoch seq : Int} {u : Value} (h : PrB w P p kp (sp q) (sp kq)) (hb : Box w g 44 #[.int .i64 E, .int .i64 span, .int .i64 prod, .int .i64 epoch, .int .i64 seq, u]) :
  (w.cell? ⟨P, 2, none⟩ = some (.pointer (some ⟨q, 0, none⟩)) ∧ w.cell? ⟨P, 3, none⟩ = some (.pointer (some ⟨kq, 0, none⟩))) ∧ (P < w.heap.size ∧ g < w.heap.size) ∧ w.cell? ⟨g, 0, none⟩ = some (.int .i64 E) ∧ w.cell? ⟨g, 1, none⟩ = some (.int .i64 span) ∧ w.cell? ⟨g, 2, none⟩ = some (.int .i64 prod) ∧ w.cell? ⟨g, 3, none⟩ = some (.int .i64 epoch) ∧ w.cell? ⟨g, 4, none⟩ = some (.int .i64 seq) ∧ w.cell? ⟨g, 5, none⟩ = some u := by
 obtain ⟨y0, y1, y2, y3, _, _, yl⟩ := prb_cells h
 exact ⟨⟨y2, y3⟩, ⟨yl, hb.lt⟩, hb.cell 0, hb.cell 1, hb.cell 2, hb.cell 3, hb.cell 4, hb.cell 5⟩
set_option maxHeartbeats 16000000 in
set_option maxRecDepth 100000 in
theorem step10_0 (W w : World) (P p kp q kq : Nat) (base every : Int) (a : Dk.Ab) (N : List BR) (o : OT) (k : Nat) (hB : PrB w P p kp (sp q) (sp kq)) (h1 : SQ W p q segN base a N w) (h2 : RQ W kp kq segN base a N w) (hk : k ≤ 30) (hla : a.L.length ≤ 2 * k + 1) (hln : N.length ≤ 524288 + k) (hT : Tab W) (hd : o.do_ = 0) (hi : OTk W o) (hsm : SmallL o.R) :
  Calls Tryz.prog 12 #[.pointer (some ⟨P, 0, none⟩), .agg (otC o), .int .i64 base, .int .i64 every] w (GotStep W P p kp base k) := by
 have hrin := hi.rin
 obtain ⟨d, ⟨bs, span, prod, epoch, seq⟩, R, A, c, n, m, ad, kc, keep, tx⟩ := o
 dsimp only at hd hrin hsm
 subst hd
 have ha := Dk.Kd.Is.ok h1.at_.1
 obtain ⟨M0, B0, d0, hr0, ht0⟩ := h2
 have hA : Below w.heap.size w (w.alloc (.cells (otC ⟨0, ⟨bs, span, prod, epoch, seq⟩, R, A, c, n, m, ad, kc, keep, tx⟩) 47)) := (Below.refl _ _).alloc (Nat.le_refl _) _
 have hO := Box.new w 47 (otC ⟨0, ⟨bs, span, prod, epoch, seq⟩, R, A, c, n, m, ad, kc, keep, tx⟩)
 have hin1 := hrin.below (h1.bel.trans (hA.mono h1.bel.size))
 have cc := rcopy5_c ⟨bs, span, prod, epoch, seq⟩ R A c _ hin1 (by have := hsm.1; omega) (fun y hy => by have := (hsm.2 y hy).1; omega)
 have HAB := Lib.hid ha
 have HT := Lib.hid hT
 have HSM := Lib.hid hsm
 have HW0 := Lib.hid (And.intro hB (And.intro h1 hr0))
 have HA0 := Lib.hid hA
 have hm0 : M0.length = N.length := by rw [← ht0, List.length_map]
 have HM0 := Lib.hid (show M0.map BX.told = N ∧ M0.length ≤ 600000 from ⟨ht0, by omega⟩)
 have HB0 := Lib.hid (show ∀ j, Ix.blk B0 j → j < w.heap.size from fun j hj => (hr0.low (.inr (.inr hj))).2)
 have HGB := Lib.hid (sq_good h1).2
 have HWS := Lib.hid h1.bel.size
 have z0 := (hO.cell 0).trans (show _ = some (Value.int .i64 0) from rfl)
 have z1 := (hO.cell 1).trans (show _ = some (Value.int .i64 bs) from rfl)
 have z2 := (hO.cell 2).trans (show _ = some (Value.int .i64 span) from rfl)
 have z3 := (hO.cell 3).trans (show _ = some (Value.int .i64 prod) from rfl)
 have z4 := (hO.cell 4).trans (show _ = some (Value.int .i64 epoch) from rfl)
 have z5 := (hO.cell 5).trans (show _ = some (Value.int .i64 seq) from rfl)
 have z6 := (hO.cell 6).trans (show _ = some (Value.slice A R.length c) from rfl)
 have zl := hO.lt
 clear h1 hr0 ht0 hB ha hT hsm hi hrin hin1 hA hO hm0
 unfold otC sp CopiedB bnC at *
 dsimp only at *
 go_enter Tryz.func12, Tryz.ntmps12
 go_upto_region 3 with fail
 go_wp2_with fail
 (with_reducible refine cc.mono ?_)
 rintro e w2 ⟨M, MA, mc, hm, rfl, hrow, hb2⟩
 have hb02 : Below w.heap.size w w2 := HA0.out.trans (hb2.mono HA0.out.size)
 have hal : Below w2.heap.size w2 (w2.alloc (.cells #[.int .i64 bs, .int .i64 span, .int .i64 prod, .int .i64 epoch, .int .i64 seq, .slice MA M.length mc] 44)) := (Below.refl _ _).alloc (Nat.le_refl _) _
 have hb03 := hb02.trans (hal.mono hb02.size)
 have hbx := Box.new w2 44 #[.int .i64 bs, .int .i64 span, .int .i64 prod, .int .i64 epoch, .int .i64 seq, .slice MA M.length mc]
 have HMS : Hid ((∀ y ∈ M, smallR y.1) ∧ M.length ≤ 50) := Lib.hid ⟨fun y hy => by
   have h1 : y.1 ∈ R.map (·.1) := hm ▸ List.mem_map.2 ⟨y, hy, rfl⟩
   obtain ⟨r, hr, e⟩ := List.mem_map.1 h1
   rw [← e]
   exact HSM.out.2 r hr, by
   have h1 := congrArg List.length hm
   rw [List.length_map, List.length_map] at h1
   have := HSM.out.1
   omega⟩
 have HM0B : Hid ((∀ j, Ix.blk B0 j → j < w.heap.size) ∧ w.heap.size ≤ w2.heap.size) := Lib.hid ⟨HB0.out, hb02.size⟩
 have hrow3 := (hrow.base (Nat.le_trans HWS.out HA0.out.size)).later hal
 have HB3 := Lib.hid (And.intro hb03 (And.intro hbx hrow3))
 have hx0 := (hbx.cell 0).trans (show _ = some (Value.int .i64 bs) from rfl)
 have hxl := hbx.lt
 clear cc hb2 hm hrow hrow3 hal hb02 hb03 hbx z0 z1 z2 z3 z4 z5 z6 zl
 by_cases hc : 0 ≤ bs ∧ bs ≤ 1000000
 ·
  obtain ⟨hc1, hc2⟩ := hc
  have hmod := mod_three bs hc1
  have hend := HGB.out
  have ce := fun v (hv : Below w.heap.size w v) => rd_end (HW0.out.2.2.later hv) (by have := HM0.out.2; omega)
  rw [HM0.out.1] at ce
  unfold sp at ce
  obtain ⟨y0, y1, y2, y3, _, _, yl⟩ := prb_cells (w := (w2.alloc (.cells #[.int .i64 bs, .int .i64 span, .int .i64 prod, .int .i64 epoch, .int .i64 seq, .slice MA M.length mc] 44)).drew) (Box.later HW0.out.1 (HB3.out.1.trans ((Below.refl _ _).drew.mono HB3.out.1.size)))
  have hxd := (HB3.out.2.1.later (Below.refl _ _).drew)
  have hs : (w2.alloc (.cells #[.int .i64 bs, .int .i64 span, .int .i64 prod, .int .i64 epoch, .int .i64 seq, .slice MA M.length mc] 44)).drew.cell? ⟨P, 3, none⟩ = some (.pointer (some ⟨kq, 0, none⟩)) ∧ (w2.alloc (.cells #[.int .i64 bs, .int .i64 span, .int .i64 prod, .int .i64 epoch, .int .i64 seq, .slice MA M.length mc] 44)).drew.cell? ⟨w2.heap.size, 0, none⟩ = some (.int .i64 bs) ∧ (w2.alloc (.cells #[.int .i64 bs, .int .i64 span, .int .i64 prod, .int .i64 epoch, .int .i64 seq, .slice MA M.length mc] 44)).drew.frozen? ⟨w2.heap.size, 0, none⟩ = false ∧ P < (w2.alloc (.cells #[.int .i64 bs, .int .i64 span, .int .i64 prod, .int .i64 epoch, .int .i64 seq, .slice MA M.length mc] 44)).drew.heap.size ∧ w2.heap.size < (w2.alloc (.cells #[.int .i64 bs, .int .i64 span, .int .i64 prod, .int .i64 epoch, .int .i64 seq, .slice MA M.length mc] 44)).drew.heap.size := ⟨y3, (hxd.cell 0).trans rfl, hxd.frozen 0, yl, hxd.lt⟩
  have ce1 := ce _ (HB3.out.1.trans ((Below.refl _ _).drew.mono HB3.out.1.size))
  clear ce y0 y1 y2 y3 yl hxd
  generalize hEN : endN base N = en at *
  go_upto_region 5 with fail
  have HSS := Lib.hid hs
  obtain ⟨s1, s2, s3, s4, s5⟩ := hs
  go_region_law (first | (go_simp; go_at_call 15; (with_reducible refine ce1.mono ?_); rintro e w4 ⟨rfl, hb4⟩; (obtain ⟨t1, t2, t3, t4, t5⟩ := s0_keep HSS.out hb4)))
  all_goals
   have hb04 := HB3.out.1.trans (((Below.refl _ _).drew.trans hb4).mono HB3.out.1.size)
   have hbx4 := (HB3.out.2.1.later (Below.refl _ _).drew).later hb4
   have hrw4 := (HB3.out.2.2.later (Below.refl _ _).drew).later hb4
   obtain ⟨E, hE⟩ : ∃ E, IntKind.i64.wrap (bs.tmod 3 + en) = E := ⟨_, rfl⟩
   have hoff := Off.one w4 ⟨w2.heap.size, 0, none⟩ (.int .i64 E)
   have hb05 : Below w.heap.size w (w4.setCell ⟨w2.heap.size, 0, none⟩ (.int .i64 E)) := hb04.trans (hoff.below hb04.size (fun j hj => hj ▸ HM0B.out.2))
   have HPB : Hid (PrB (w4.setCell ⟨w2.heap.size, 0, none⟩ (.int .i64 E)) P p kp (sp q) (sp kq)) := Lib.hid (Box.later HW0.out.1 hb05)
   have HSQ := Lib.hid (HW0.out.2.1.later hb05)
   have HRD := Lib.hid (HW0.out.2.2.later hb05)
   have HBB : Hid (Box (w4.setCell ⟨w2.heap.size, 0, none⟩ (.int .i64 E)) w2.heap.size 44 #[.int .i64 E, .int .i64 span, .int .i64 prod, .int .i64 epoch, .int .i64 seq, .slice MA M.length mc]) := Lib.hid (hbx4.set 0 (.int .i64 E))
   have HRW : Hid (RowR (w4.setCell ⟨w2.heap.size, 0, none⟩ (.int .i64 E)) W.heap.size (.slice MA M.length mc) M) := Lib.hid (rowR_off hrw4 hoff (fun j hj hr => (hj ▸ hr).apart (.box hbx4 (List.mem_singleton.2 rfl) : TyB [44] w4 _) (by decide)))
   rw [hE]
   clear ce1 s1 s2 s3 s4 s5 t1 t2 t3 t4 t5 HSS hb4 hb04 hbx4 hrw4 hoff hb05 hx0 hxl HB3
   go_upto_region 6 with fail
   generalize (w4.setCell ⟨w2.heap.size, 0, none⟩ (.int .i64 E)) = w5 at *
   rw [← hEN] at hE
   have hSt : PrB w5.drew P p kp (sp q) (sp kq) ∧ SQ W p q segN base a N w5.drew ∧ RD W kp kq segN base a M0 B0 d0 w5.drew := ⟨Box.later HPB.out (Below.refl _ _).drew, HSQ.out.later (Below.refl _ _).drew, HRD.out.later (Below.refl _ _).drew⟩
   have hbd : Box w5.drew w2.heap.size 44 #[.int .i64 E, .int .i64 span, .int .i64 prod, .int .i64 epoch, .int .i64 seq, .slice MA M.length mc] := HBB.out.later (Below.refl _ _).drew
   have hrd : RowR w5.drew W.heap.size (.slice MA M.length mc) M := HRW.out.later (Below.refl _ _).drew
   have c1 := sq_app hSt.2.1 HT.out (by omega) (by omega) ⟨E, span, prod, epoch, seq⟩ M MA mc (hrd.rsinS HMS.out.1) (by have := HMS.out.2; omega)
   have cr := fun v (hr : RD W kp kq segN base a M0 B0 d0 v) (hw : RowR v W.heap.size (.slice MA M.length mc) M) => rapp_c W v kp kq segN base a M0 B0 d0 ⟨E, span, prod, epoch, seq⟩ M MA mc hr HAB.out (by omega) (by decide) HM0.out.2 (hw.rsinS HMS.out.1) hw (by have := HMS.out.2; omega)
   rw [HM0.out.1] at cr
   rw [hEN] at c1 cr
   have HST := Lib.hid hSt
   have HBD := Lib.hid hbd
   have HRW2 := Lib.hid hrd
   have HGL := Lib.hid (And.intro (gA_len (a := a) segN en ⟨E, span, prod, epoch, seq⟩ M) (gN_len (a := a) (N := N) segN en ⟨E, span, prod, epoch, seq⟩ M))
   generalize gE a segN en ⟨E, span, prod, epoch, seq⟩ M = ev at *
   generalize gA a segN en ⟨E, span, prod, epoch, seq⟩ M = a' at *
   generalize gN a segN en ⟨E, span, prod, epoch, seq⟩ M N = N' at *
   have hs : (w5.drew.cell? ⟨P, 2, none⟩ = some (.pointer (some ⟨q, 0, none⟩)) ∧ w5.drew.cell? ⟨P, 3, none⟩ = some (.pointer (some ⟨kq, 0, none⟩))) ∧ (P < w5.drew.heap.size ∧ w2.heap.size < w5.drew.heap.size) ∧ w5.drew.cell? ⟨w2.heap.size, 0, none⟩ = some (.int .i64 E) ∧ w5.drew.cell? ⟨w2.heap.size, 1, none⟩ = some (.int .i64 span) ∧ w5.drew.cell? ⟨w2.heap.size, 2, none⟩ = some (.int .i64 prod) ∧ w5.drew.cell? ⟨w2.heap.size, 3, none⟩ = some (.int .i64 epoch) ∧ w5.drew.cell? ⟨w2.heap.size, 4, none⟩ = some (.int .i64 seq) ∧ w5.drew.cell? ⟨w2.heap.size, 5, none⟩ = some (.slice MA M.length mc) := s0_cells hSt.1 hbd
   unfold sp bnC at c1 cr
   dsimp only at c1 cr
   clear hSt hbd hrd
   go_region_held3 (fun v => (v.cell? ⟨P, 2, none⟩ = some (.pointer (some ⟨q, 0, none⟩)) ∧ v.cell? ⟨P, 3, none⟩ = some (.pointer (some ⟨kq, 0, none⟩))) ∧ (P < v.heap.size ∧ w2.heap.size < v.heap.size) ∧ v.cell? ⟨w2.heap.size, 0, none⟩ = some (.int .i64 E) ∧ v.cell? ⟨w2.heap.size, 1, none⟩ = some (.int .i64 span) ∧ v.cell? ⟨w2.heap.size, 2, none⟩ = some (.int .i64 prod) ∧ v.cell? ⟨w2.heap.size, 3, none⟩ = some (.int .i64 epoch) ∧ v.cell? ⟨w2.heap.size, 4, none⟩ = some (.int .i64 seq) ∧ v.cell? ⟨w2.heap.size, 5, none⟩ = some (.slice MA M.length mc)) (first | exact hs | assumption)
    (first | ((with_reducible refine c1.mono ?_); rintro e w5 ⟨rfl, hs5, ho5⟩; have hp5 := prb_seg HST.out.1 ho5; have hr5 := HST.out.2.2.seg ho5 hs5.bel; have hb5 := box_seg HBD.out ho5 (by decide) (by decide); have hw5 := rowR_seg HRW2.out ho5; have hc5 := s0_cells hp5 hb5) | ((with_reducible refine (cr _ hr5 hw5).mono ?_); rintro e w6 ⟨rfl, M6, B6, d6, hr6, ht6, ho6⟩; have hp6 := prb_doc hp5 (ho6.mono fun k _ hk => ⟨(hr5.low hk).1, hr5.kind hk⟩); have hs6 := hs5.doc (ho6.mono fun k _ hk => ⟨(hr5.low hk).1, hr5.kind hk⟩); have hb6 := box_rdf hr5 hb5 HM0B.out.1 HM0B.out.2 ho6; have hc6 := s0_cells hp6 hb6))
   all_goals
    have HF : Hid (PO W P p kp base (2 * k + 3) (524289 + k) w6) := Lib.hid (.inl ⟨q, kq, a', N', hp6, hs6, ⟨M6, B6, d6, hr6, ht6⟩, by have := HGL.out.1; omega, by have := HGL.out.2; omega⟩)
    clear hs c1 cr hp5 hr5 hb5 hw5 hc5 hp6 hs6 hb6 hc6 hs5 ho5 hr6 ht6 ho6
    go_wp2_with fail
    go_ret
    exact ⟨by simp, HF.out⟩
 ·
  have hc' : (bs < 0) ∨ (0 ≤ bs ∧ 1000000 < bs) := by omega
  have HPB : Hid (PrB (w2.alloc (.cells #[.int .i64 bs, .int .i64 span, .int .i64 prod, .int .i64 epoch, .int .i64 seq, .slice MA M.length mc] 44)) P p kp (sp q) (sp kq)) := Lib.hid (Box.later HW0.out.1 HB3.out.1)
  have HSQ := Lib.hid (HW0.out.2.1.later HB3.out.1)
  have HRD := Lib.hid (HW0.out.2.2.later HB3.out.1)
  have HBB := Lib.hid HB3.out.2.1
  have HRW := Lib.hid HB3.out.2.2
  clear hc
  rcases hc' with hc1 | ⟨hc0, hc1⟩
  all_goals
   go_upto_region 6 with fail
   clear hx0 hxl HB3
   generalize (w2.alloc (.cells #[.int .i64 bs, .int .i64 span, .int .i64 prod, .int .i64 epoch, .int .i64 seq, .slice MA M.length mc] 44)) = w3 at *
   have hSt : PrB w3.drew P p kp (sp q) (sp kq) ∧ SQ W p q segN base a N w3.drew ∧ RD W kp kq segN base a M0 B0 d0 w3.drew := ⟨Box.later HPB.out (Below.refl _ _).drew, HSQ.out.later (Below.refl _ _).drew, HRD.out.later (Below.refl _ _).drew⟩
   have hbd : Box w3.drew w2.heap.size 44 #[.int .i64 bs, .int .i64 span, .int .i64 prod, .int .i64 epoch, .int .i64 seq, .slice MA M.length mc] := HBB.out.later (Below.refl _ _).drew
   have hrd : RowR w3.drew W.heap.size (.slice MA M.length mc) M := HRW.out.later (Below.refl _ _).drew
   have c1 := sq_app hSt.2.1 HT.out (by omega) (by omega) ⟨bs, span, prod, epoch, seq⟩ M MA mc (hrd.rsinS HMS.out.1) (by have := HMS.out.2; omega)
   have cr := fun v (hr : RD W kp kq segN base a M0 B0 d0 v) (hw : RowR v W.heap.size (.slice MA M.length mc) M) => rapp_c W v kp kq segN base a M0 B0 d0 ⟨bs, span, prod, epoch, seq⟩ M MA mc hr HAB.out (by omega) (by decide) HM0.out.2 (hw.rsinS HMS.out.1) hw (by have := HMS.out.2; omega)
   rw [HM0.out.1] at cr
   have HST := Lib.hid hSt
   have HBD := Lib.hid hbd
   have HRW2 := Lib.hid hrd
   have HGL := Lib.hid (And.intro (gA_len (a := a) segN (endN base N) ⟨bs, span, prod, epoch, seq⟩ M) (gN_len (a := a) (N := N) segN (endN base N) ⟨bs, span, prod, epoch, seq⟩ M))
   generalize gE a segN (endN base N) ⟨bs, span, prod, epoch, seq⟩ M = ev at *
   generalize gA a segN (endN base N) ⟨bs, span, prod, epoch, seq⟩ M = a' at *
   generalize gN a segN (endN base N) ⟨bs, span, prod, epoch, seq⟩ M N = N' at *
   have hs : (w3.drew.cell? ⟨P, 2, none⟩ = some (.pointer (some ⟨q, 0, none⟩)) ∧ w3.drew.cell? ⟨P, 3, none⟩ = some (.pointer (some ⟨kq, 0, none⟩))) ∧ (P < w3.drew.heap.size ∧ w2.heap.size < w3.drew.heap.size) ∧ w3.drew.cell? ⟨w2.heap.size, 0, none⟩ = some (.int .i64 bs) ∧ w3.drew.cell? ⟨w2.heap.size, 1, none⟩ = some (.int .i64 span) ∧ w3.drew.cell? ⟨w2.heap.size, 2, none⟩ = some (.int .i64 prod) ∧ w3.drew.cell? ⟨w2.heap.size, 3, none⟩ = some (.int .i64 epoch) ∧ w3.drew.cell? ⟨w2.heap.size, 4, none⟩ = some (.int .i64 seq) ∧ w3.drew.cell? ⟨w2.heap.size, 5, none⟩ = some (.slice MA M.length mc) := s0_cells hSt.1 hbd
   unfold sp bnC at c1 cr
   dsimp only at c1 cr
   clear hSt hbd hrd
   go_region_held3 (fun v => (v.cell? ⟨P, 2, none⟩ = some (.pointer (some ⟨q, 0, none⟩)) ∧ v.cell? ⟨P, 3, none⟩ = some (.pointer (some ⟨kq, 0, none⟩))) ∧ (P < v.heap.size ∧ w2.heap.size < v.heap.size) ∧ v.cell? ⟨w2.heap.size, 0, none⟩ = some (.int .i64 bs) ∧ v.cell? ⟨w2.heap.size, 1, none⟩ = some (.int .i64 span) ∧ v.cell? ⟨w2.heap.size, 2, none⟩ = some (.int .i64 prod) ∧ v.cell? ⟨w2.heap.size, 3, none⟩ = some (.int .i64 epoch) ∧ v.cell? ⟨w2.heap.size, 4, none⟩ = some (.int .i64 seq) ∧ v.cell? ⟨w2.heap.size, 5, none⟩ = some (.slice MA M.length mc)) (first | exact hs | assumption)
    (first | ((with_reducible refine c1.mono ?_); rintro e w5 ⟨rfl, hs5, ho5⟩; have hp5 := prb_seg HST.out.1 ho5; have hr5 := HST.out.2.2.seg ho5 hs5.bel; have hb5 := box_seg HBD.out ho5 (by decide) (by decide); have hw5 := rowR_seg HRW2.out ho5; have hc5 := s0_cells hp5 hb5) | ((with_reducible refine (cr _ hr5 hw5).mono ?_); rintro e w6 ⟨rfl, M6, B6, d6, hr6, ht6, ho6⟩; have hp6 := prb_doc hp5 (ho6.mono fun k _ hk => ⟨(hr5.low hk).1, hr5.kind hk⟩); have hs6 := hs5.doc (ho6.mono fun k _ hk => ⟨(hr5.low hk).1, hr5.kind hk⟩); have hb6 := box_rdf hr5 hb5 HM0B.out.1 HM0B.out.2 ho6; have hc6 := s0_cells hp6 hb6))
   all_goals
    have HF : Hid (PO W P p kp base (2 * k + 3) (524289 + k) w6) := Lib.hid (.inl ⟨q, kq, a', N', hp6, hs6, ⟨M6, B6, d6, hr6, ht6⟩, by have := HGL.out.1; omega, by have := HGL.out.2; omega⟩)
    clear hs c1 cr hp5 hr5 hb5 hw5 hc5 hp6 hs6 hb6 hc6 hs5 ho5 hr6 ht6 ho6
    go_wp2_with fail
    go_ret
    exact ⟨by simp, HF.out⟩
end Go.Proofs.YtjnphajkoopkgaaGreatDoor
