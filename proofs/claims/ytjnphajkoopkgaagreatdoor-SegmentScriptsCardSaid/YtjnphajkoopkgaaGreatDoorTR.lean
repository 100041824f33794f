/- Merged texts. What each proves is told at its head. -/
import Derived.Test.YtjnphajkoopkgaaGreatDoorTP
import Derived.Test.YtjnphajkoopkgaaGreatDoorTQ
namespace Go.Proofs.YtjnphajkoopkgaaGreatDoor
open Go.RowKit
set_option linter.unusedVariables false
theorem open_bad (p : Nat) (name : ByteArray) (base every : Int) (w : World) (h : ¬ ((1 ≤ every ∧ every ≤ 1000000) ∧ (0 ≤ base ∧ base ≤ 1099511627776))) :
  Calls Tryz.prog 9 #[.pointer (some ⟨p, 0, none⟩), .string name, .int .i64 base, .int .i64 every] w (Good w (.tuple #[.pointer none, .int .i64 1])) := by
 have cn := Ix.new_c every w
 by_cases he : 1 ≤ every ∧ every ≤ 1000000
 ·
  have hb : base < 0 ∨ (¬ base < 0 ∧ 1099511627776 < base) := by omega
  clear h
  rcases hb with hb | ⟨hb0, hb⟩
  all_goals
   go_enter Tryz.func9, Tryz.ntmps9
   go_wp2_with fail
   (with_reducible refine cn.mono ?_)
   rintro e w1 ⟨_, hnw⟩
   obtain ⟨rfl, _, hbw1⟩ := hnw he
   have HW1 := Lib.hid hbw1
   clear cn hbw1
   go_wp2_with fail
   go_ret2
   exact ⟨rfl, HW1.out⟩
 ·
  go_enter Tryz.func9, Tryz.ntmps9
  go_wp2_with fail
  (with_reducible refine cn.mono ?_)
  rintro e w1 ⟨hnw, _⟩
  obtain ⟨rfl, hw⟩ := hnw he
  have hw' := hw.symm
  subst hw'
  clear cn hw
  go_wp2_with fail
  go_ret2
  exact ⟨rfl, Below.refl _ _⟩
theorem step10_c (W w : World) (P p kp q kq : Nat) (base every : Int) (a : Dk.Ab) (N : List BR) (o : OT) (k : Nat) (hB : PrB w P p kp (sp q) (sp kq)) (hP : W.heap.size ≤ P) (h1 : SQ W p q segN base a N w) (h2 : RQ W kp kq segN base a N w) (hk : k ≤ 30) (hla : a.L.length ≤ 2 * k + 1) (hln : N.length ≤ 524288 + k) (hT : Tab W) (hok : OpOk segN base every) (hi : OTk W o) (hsm : SmallL o.R) :
  Calls Tryz.prog 12 #[.pointer (some ⟨P, 0, none⟩), .agg (otC o), .int .i64 base, .int .i64 every] w (GotStep W P p kp base k) := by
 by_cases h0 : o.do_ = 0
 ·
  exact step10_0 W w P p kp q kq base every a N o k hB h1 h2 hk hla hln hT h0 hi hsm
 by_cases d1 : o.do_ = 1
 ·
  exact step10_1 W w P p kp q kq base every a N o k hB h1 h2 hk hla hln d1
 by_cases d2 : o.do_ = 2
 ·
  exact step10_2 W w P p kp q kq base every a N o k hB h1 h2 hk hla hln d2 hi.n
 by_cases d3 : o.do_ = 3
 ·
  exact step10_3 W w P p kp q kq base every a N o k hB hP h1 h2 hk hla hT hok d3 hi
 by_cases d4 : o.do_ = 4
 ·
  exact step10_4 W w P p kp q kq base every a N o k hB hP h1 h2 hk hla hT hok d4 hi
 exact step10_9 W w P p kp q kq base every a N o k hB h1 h2 hk hla hln (by simpa using h0) (by simpa using d1) (by simpa using d2) (by simpa using d3) (by simpa using d4)
theorem PO.bel {W w : World} {P p kp la ln : Nat} {base : Int} (h : PO W P p kp base la ln w) : Below W.heap.size W w := by
 rcases h with ⟨q, kq, a, N, g1, g2, _⟩ | h
 ·
  exact g2.bel
 ·
  exact h.2
theorem PO.later {W w w' : World} {P p kp la ln : Nat} {base : Int} (h : PO W P p kp base la ln w) (hb : Below w.heap.size w w') : PO W P p kp base la ln w' := by
 rcases h with ⟨q, kq, a, N, g1, g2, g3, g4, g5⟩ | ⟨g1, g2⟩
 ·
  exact .inl ⟨q, kq, a, N, Box.later g1 hb, g2.later hb, g3.later hb, g4, g5⟩
 ·
  exact .inr ⟨Box.later g1 hb, g2.trans (hb.mono g2.size)⟩
theorem s19_new {W w : World} {P p kp q kq : Nat} {base : Int} {a : Dk.Ab} {N : List BR} (h : PrB w P p kp (sp q) (sp kq)) (hr : RQ W kp kq segN base a N w) :
  (w.drew.cell? ⟨P, 2, none⟩ = some (.pointer (some ⟨q, 0, none⟩)) ∧ w.drew.cell? ⟨P, 3, none⟩ = some (.pointer (some ⟨kq, 0, none⟩)) ∧ w.drew.cell? ⟨kq, 2, none⟩ = some (.int .i64 base)) ∧ (P < w.drew.heap.size ∧ kq < w.drew.heap.size) ∧ Below w.heap.size w w.drew := by
 obtain ⟨y0, y1, y2, y3, _, _, yl⟩ := prb_cells h
 obtain ⟨z2, zl⟩ := hr.cells
 exact ⟨⟨y2, y3, z2⟩, ⟨yl, zl⟩, (Below.refl _ _).drew⟩
theorem s19_keep {w0 w w' : World} {P kq : Nat} {u v z : Value} (h : (w.cell? ⟨P, 2, none⟩ = some u ∧ w.cell? ⟨P, 3, none⟩ = some v ∧ w.cell? ⟨kq, 2, none⟩ = some z) ∧ (P < w.heap.size ∧ kq < w.heap.size) ∧ Below w0.heap.size w0 w) (hb : Below w.heap.size w w') :
  (w'.cell? ⟨P, 2, none⟩ = some u ∧ w'.cell? ⟨P, 3, none⟩ = some v ∧ w'.cell? ⟨kq, 2, none⟩ = some z) ∧ (P < w'.heap.size ∧ kq < w'.heap.size) ∧ Below w0.heap.size w0 w' :=
 ⟨⟨(hb.cell (p := ⟨P, 2, none⟩) h.2.1.1).trans h.1.1, (hb.cell (p := ⟨P, 3, none⟩) h.2.1.1).trans h.1.2.1, (hb.cell (p := ⟨kq, 2, none⟩) h.2.1.2).trans h.1.2.2⟩, ⟨Nat.lt_of_lt_of_le h.2.1.1 hb.size, Nat.lt_of_lt_of_le h.2.1.2 hb.size⟩, h.2.2.trans (hb.mono h.2.2.size)⟩
theorem kis_new (W w : World) (room : Int) (hW : W.heap.size ≤ w.heap.size) : Dk.Kd.KIs (w.alloc (.cells #[.int .i64 room, .slice none 0 0, .int .i64 (-1)] 34)) w.heap.size ⟨room, false, 0, []⟩ (KS W (w.alloc (.cells #[.int .i64 room, .slice none 0 0, .int .i64 (-1)] 34))) :=
 kis_kind (S := fun k => W.heap.size ≤ k) ⟨.slice none 0 0, ⟨Box.new w _ _, World.ownsRow_nil _ _ _ _⟩, hW, fun k hk => by cases hk⟩ (fun k hk => hk)
theorem live_at {W w : World} (hT : Tab W) (hb : Below W.heap.size W w) : Calls Tryz.prog 8 #[] w (fun e w' => e = .returned (.bool true) ∧ Below W.heap.size W w') :=
 (live10_c w (hT.below hb)).mono fun e w' h => ⟨h.1, hb.trans (h.2.mono hb.size)⟩
set_option maxHeartbeats 16000000 in
set_option maxRecDepth 100000 in
theorem segmentScripts_walk (x : RunR) (W : World) (hx : RunK W x) (hT : Tab W) : Calls Tryz.prog 3 #[.agg (runC x)] W (Good W (.bool true)) := by
 obtain ⟨base, every, room, A, c, l⟩ := x
 obtain ⟨hops, hrm⟩ := hx
 dsimp only at hops hrm
 have hA : Below W.heap.size W (W.alloc (.cells (runC ⟨base, every, room, A, c, l⟩) 24)) := (Below.refl _ _).alloc (Nat.le_refl _) _
 have hbx := Box.new W 24 (runC ⟨base, every, room, A, c, l⟩)
 have HBX := Lib.hid hbx
 have c0 := (hbx.cell 0).trans (show _ = some (Value.int .i64 base) from rfl)
 have c1 := (hbx.cell 1).trans (show _ = some (Value.int .i64 every) from rfl)
 have c2 := (hbx.cell 2).trans (show _ = some (Value.int .i64 room) from rfl)
 have c3 := (hbx.cell 3).trans (show _ = some (Value.slice A l.length c) from rfl)
 have cl := hbx.lt
 have CL : Hid (W.heap.size < (W.alloc (.cells (runC ⟨base, every, room, A, c, l⟩) 24)).heap.size) := Lib.hid hbx.lt
 have hT1 := hT.below hA
 have HA := Lib.hid hA
 have HT1 := Lib.hid hT1
 have HOPS := Lib.hid hops
 by_cases hroom : 1 ≤ room ∧ room ≤ 4194304
 ·
  have cn := Dk.at_new (W := (W.alloc (.cells #[.int .i64 base, .int .i64 every, .int .i64 room, .slice A l.length c] 24))) (w := (W.alloc (.cells #[.int .i64 base, .int .i64 every, .int .i64 room, .slice A l.length c] 24))) room hroom (Below.refl _ _)
  unfold Dk.dp at cn
  clear hT hT1 hops hA hbx hrm
  unfold runC at *
  dsimp only at *
  go_enter Tryz.func3, Tryz.ntmps3
  go_upto_region 1 with fail
  generalize (W.alloc (.cells #[.int .i64 base, .int .i64 every, .int .i64 room, .slice A l.length c] 24)) = W1 at *
  go_wp2_with fail
  (with_reducible refine cn.mono ?_)
  rintro e w2 ⟨rfl, hat⟩
  have c0' := (hat.2.cell (p := ⟨W.heap.size, 0, none⟩) cl).trans c0
  have c1' := (hat.2.cell (p := ⟨W.heap.size, 1, none⟩) cl).trans c1
  have c2' := (hat.2.cell (p := ⟨W.heap.size, 2, none⟩) cl).trans c2
  have c3' := (hat.2.cell (p := ⟨W.heap.size, 3, none⟩) cl).trans c3
  have cl' : W.heap.size < w2.heap.size := Nat.lt_of_lt_of_le cl hat.2.size
  have HAT := Lib.hid hat
  clear cn hat c0 c1 c2 c3
  have hb3 : Below w2.heap.size w2 (w2.alloc (.cells #[.int .i64 room, .slice none 0 0, .int .i64 (-1)] 34)) := (Below.refl _ _).alloc (Nat.le_refl _) _
  have hb4 : Below w2.heap.size w2 ((w2.alloc (.cells #[.int .i64 room, .slice none 0 0, .int .i64 (-1)] 34)).alloc (.cells #[.pointer (some ⟨W1.heap.size, 0, none⟩), .pointer (some ⟨w2.heap.size, 0, none⟩), .pointer none, .pointer none] 38)) := hb3.trans (((Below.refl _ _).alloc (Nat.le_refl _) _).mono hb3.size)
  have hB4 : PrB ((w2.alloc (.cells #[.int .i64 room, .slice none 0 0, .int .i64 (-1)] 34)).alloc (.cells #[.pointer (some ⟨W1.heap.size, 0, none⟩), .pointer (some ⟨w2.heap.size, 0, none⟩), .pointer none, .pointer none] 38)) (w2.heap.size + 1) W1.heap.size w2.heap.size (.pointer none) (.pointer none) := by
   have h1 := Box.new (w2.alloc (.cells #[.int .i64 room, .slice none 0 0, .int .i64 (-1)] 34)) 38 #[.pointer (some ⟨W1.heap.size, 0, none⟩), .pointer (some ⟨w2.heap.size, 0, none⟩), .pointer none, .pointer none]
   rw [World.size_alloc] at h1
   exact h1
  have hk4 := kis_later (kis_new W1 w2 room HAT.out.2.size) ((Below.refl _ _).alloc (Nat.le_refl _) (.cells #[.pointer (some ⟨W1.heap.size, 0, none⟩), .pointer (some ⟨w2.heap.size, 0, none⟩), .pointer none, .pointer none] 38))
  have hat4 := HAT.out.later hb4
  have hP : W1.heap.size ≤ w2.heap.size + 1 := Nat.le_succ_of_le HAT.out.2.size
  have hcc := fun i => hb4.cell (p := ⟨W.heap.size, i, none⟩) cl'
  have c0 := (hcc _).trans c0'
  have c1 := (hcc _).trans c1'
  have c2 := (hcc _).trans c2'
  have c3 := (hcc _).trans c3'
  have cl4 : W.heap.size < ((w2.alloc (.cells #[.int .i64 room, .slice none 0 0, .int .i64 (-1)] 34)).alloc (.cells #[.pointer (some ⟨W1.heap.size, 0, none⟩), .pointer (some ⟨w2.heap.size, 0, none⟩), .pointer none, .pointer none] 38)).heap.size := Nat.lt_of_lt_of_le cl' hb4.size
  have HB4 := Lib.hid (And.intro hB4 (And.intro hat4 hk4))
  have HP := Lib.hid hP
  clear hb3 hB4 hk4 hat4 hP hcc
  go_upto_region 5 with fail
  clear c0' c1' c2' c3' cl' hb4 HAT
  generalize ((w2.alloc (.cells #[.int .i64 room, .slice none 0 0, .int .i64 (-1)] 34)).alloc (.cells #[.pointer (some ⟨W1.heap.size, 0, none⟩), .pointer (some ⟨w2.heap.size, 0, none⟩), .pointer none, .pointer none] 38)) = w4 at *
  by_cases hok : (1 ≤ every ∧ every ≤ 1000000) ∧ (0 ≤ base ∧ base ≤ 1099511627776)
  ·
   have hop : OpOk segN base every := ⟨hok.1, hok.2, by decide, by decide⟩
   obtain ⟨⟨e1, e2⟩, e3, e4⟩ := hok
   have b1 : ¬ base < 0 := by omega
   have b2 : ¬ (1099511627776 : Int) < base := by omega
   have b3 : ¬ every < 1 := by omega
   have b4 : ¬ (1000000 : Int) < every := by omega
   have co := opens_c W1 w4 (w2.heap.size + 1) W1.heap.size w2.heap.size (.pointer none) (.pointer none) base every ⟨room, false, 0, []⟩ HB4.out.1 HP.out HB4.out.2.1 HB4.out.2.2 HT1.out hop (Nat.zero_le _)
   have HOP := Lib.hid hop
   clear hop
   go_wp2_with fail
   (with_reducible refine co.mono ?_)
   rintro e w5 ⟨rfl, hpo⟩
   have HPO : Hid (PO W1 (w2.heap.size + 1) W1.heap.size w2.heap.size base (2 * 0 + 1) (524288 + 0) w5) := Lib.hid hpo
   clear co hpo c0 c1 c2 c3 cl4 b1 b2 b3 b4 e1 e2 e3 e4
   generalize w2.heap.size = kp at *
   generalize hPP : kp + 1 = P at *
   clear hPP
   go_wp2_with fail
   go_loopw [8] (fun i wr => ∃ k : Nat, i = .int .i64 k ∧ k ≤ l.length ∧ k ≤ 30 ∧ PO W1 P W1.heap.size kp base (2 * k + 1) (524288 + k) wr) (fun i _ => l.length - (intOf i).toNat)
   case atStart => exact ⟨0, rfl, Nat.zero_le _, Nat.zero_le _, HPO.out⟩
   case round =>
    obtain ⟨k, rfl, hk, hk30, hpo⟩ := hrel
    have hbw := hpo.bel
    have HBW := Lib.hid hbw
    have hbxr := HBX.out.later hbw
    have r0 := (hbxr.cell 0).trans (show _ = some (Value.int .i64 base) from rfl)
    have r1 := (hbxr.cell 1).trans (show _ = some (Value.int .i64 every) from rfl)
    have r3 := (hbxr.cell 3).trans (show _ = some (Value.slice A l.length c) from rfl)
    have rl := hbxr.lt
    clear hbw
    by_cases hk1 : k < l.length
    ·
     have hki : (k : Int) < (l.length : Int) := by omega
     have hk0 : (0 : Int) ≤ (k : Int) := by omega
     by_cases hk2 : k < 30
     ·
      have hk2i : (k : Int) < 30 := by omega
      rcases hpo with ⟨q, kq, a, N, hB, hs1, hr1, hla, hln⟩ | ⟨hB, _⟩
      ·
       obtain ⟨o, ho⟩ : ∃ o, l[k]? = some o := ⟨_, List.getElem?_eq_getElem hk1⟩
       obtain ⟨b, off, rfl, hbl, hca⟩ := HOPS.out (by omega)
       obtain ⟨hcell, hot⟩ := hca k o ho
       have hbw0 := HA.out.trans (HBW.out.mono HA.out.size)
       have hcc := fun i => hbw0.cell (p := ⟨b, i, none⟩) hbl
       have hblr : b < wr.heap.size := Nat.lt_of_lt_of_le hbl hbw0.size
       obtain ⟨dd, ⟨bs, span, prod, epoch, seq⟩, R, RA, rc, nn, mm, ad, kc, keep, tx⟩ := o
       have x0 := (hcc _).trans (hcell 0 _ rfl)
       have x1 := (hcc _).trans (hcell 1 _ rfl)
       have x2 := (hcc _).trans (hcell 2 _ rfl)
       have x3 := (hcc _).trans (hcell 3 _ rfl)
       have x4 := (hcc _).trans (hcell 4 _ rfl)
       have x5 := (hcc _).trans (hcell 5 _ rfl)
       have x6 := (hcc _).trans (hcell 6 _ rfl)
       have x7 := (hcc _).trans (hcell 7 _ rfl)
       have x8 := (hcc _).trans (hcell 8 _ rfl)
       have x9 := (hcc _).trans (hcell 9 _ rfl)
       have x10 := (hcc _).trans (hcell 10 _ rfl)
       have hal : Below wr.heap.size wr (wr.alloc (.cells #[.int .i64 dd, .int .i64 bs, .int .i64 span, .int .i64 prod, .int .i64 epoch, .int .i64 seq, .slice RA R.length rc, .int .i64 nn, .int .i64 mm, .slice ad keep.length kc, .string tx] 47)) := (Below.refl _ _).alloc (Nat.le_refl _) _
       have hob := Box.new wr 47 #[.int .i64 dd, .int .i64 bs, .int .i64 span, .int .i64 prod, .int .i64 epoch, .int .i64 seq, .slice RA R.length rc, .int .i64 nn, .int .i64 mm, .slice ad keep.length kc, .string tx]
       have hot1 : OTk W1 ⟨dd, ⟨bs, span, prod, epoch, seq⟩, R, RA, rc, nn, mm, ad, kc, keep, tx⟩ := ⟨hot.rin.below HA.out, hot.len, hot.tx, hot.n, hot.klen, keep10 hot.keep HA.out (fun k hk => Nat.le_trans HA.out.size hk)⟩
       have cs := rsmall_c ⟨bs, span, prod, epoch, seq⟩ R RA rc (wr.alloc (.cells #[.int .i64 dd, .int .i64 bs, .int .i64 span, .int .i64 prod, .int .i64 epoch, .int .i64 seq, .slice RA R.length rc, .int .i64 nn, .int .i64 mm, .slice ad keep.length kc, .string tx] 47)) (hot.rin.below (hbw0.trans (hal.mono hbw0.size))) hot.len
       obtain ⟨y0, y1, y2, y3, _, _, yl⟩ := prb_cells hB
       have HST := Lib.hid (And.intro hB (And.intro hs1 hr1))
       have HOB := Lib.hid (And.intro hal hob)
       have HOT := Lib.hid hot1
       have HLL := Lib.hid (And.intro hla hln)
       have htx : tx.size ≤ 140737488351232 := hot.tx
       rw [Nat.add_zero] at x0
       unfold otC sp bnC at *
       dsimp only at *
       clear hcell hca ho hot hot1 hcc hal hob hB hs1 hr1 hla hln hbw0 hbxr hbl
       generalize hk11 : k * 11 = k11 at *
       go_upto_region 14 with fail
       go_wp2_with fail
       (with_reducible refine cs.mono ?_)
       rintro e w3 ⟨res, rfl, hsm, hb3⟩
       have hbr3 : Below wr.heap.size wr w3 := HOB.out.1.trans (hb3.mono HOB.out.1.size)
       have HBW3 := Lib.hid (HBW.out.trans (hbr3.mono HBW.out.size))
       have HOP3 := Lib.hid (HOB.out.2.later hb3)
       have HBR3 := Lib.hid hbr3
       have HSM := Lib.hid hsm
       clear hb3 hbr3 hsm x0 x1 x2 x3 x4 x5 x6 x7 x8 x9 x10 r0 r1 r3 y0 y1 y2 y3 yl
       cases res with
       | false =>
        have z10 := (HOP3.out.cell 10).trans (show _ = some (Value.string tx) from rfl)
        have cl2 := live_at HT1.out HBW3.out
        clear cs
        go_wp2_with fail
        (with_reducible refine cl2.mono ?_)
        rintro e w6 ⟨rfl, hb6⟩
        have HF := Lib.hid (HA.out.trans (hb6.mono HA.out.size))
        clear cl2 hb6
        go_wp2_with fail
        go_ret
        exact ⟨rfl, HF.out⟩
       | true =>
        have hbx3 := HBX.out.later HBW3.out
        have r0 := (hbx3.cell 0).trans (show _ = some (Value.int .i64 base) from rfl)
        have r1 := (hbx3.cell 1).trans (show _ = some (Value.int .i64 every) from rfl)
        have z0 := (HOP3.out.cell 0).trans (show _ = some (Value.int .i64 dd) from rfl)
        have z1 := (HOP3.out.cell 1).trans (show _ = some (Value.int .i64 bs) from rfl)
        have z2 := (HOP3.out.cell 2).trans (show _ = some (Value.int .i64 span) from rfl)
        have z3 := (HOP3.out.cell 3).trans (show _ = some (Value.int .i64 prod) from rfl)
        have z4 := (HOP3.out.cell 4).trans (show _ = some (Value.int .i64 epoch) from rfl)
        have z5 := (HOP3.out.cell 5).trans (show _ = some (Value.int .i64 seq) from rfl)
        have z6 := (HOP3.out.cell 6).trans (show _ = some (Value.slice RA R.length rc) from rfl)
        have z7 := (HOP3.out.cell 7).trans (show _ = some (Value.int .i64 nn) from rfl)
        have z8 := (HOP3.out.cell 8).trans (show _ = some (Value.int .i64 mm) from rfl)
        have z9 := (HOP3.out.cell 9).trans (show _ = some (Value.slice ad keep.length kc) from rfl)
        have z10 := (HOP3.out.cell 10).trans (show _ = some (Value.string tx) from rfl)
        have zl := HOP3.out.lt
        clear hbx3
        by_cases h5 : 500 < tx.size
        ·
         have h5' : (500 : Int) < (tx.size : Int) := by omega
         have cl2 := live_at HT1.out HBW3.out
         clear cs
         go_wp2_with fail
         (with_reducible refine cl2.mono ?_)
         rintro e w6 ⟨rfl, hb6⟩
         have HF := Lib.hid (HA.out.trans (hb6.mono HA.out.size))
         clear cl2 hb6
         go_wp2_with fail
         go_ret
         exact ⟨rfl, HF.out⟩
        ·
         have h5' : ¬ (500 : Int) < (tx.size : Int) := by omega
         have cst := step10_c W1 w3 P W1.heap.size kp q kq base every a N ⟨dd, ⟨bs, span, prod, epoch, seq⟩, R, RA, rc, nn, mm, ad, kc, keep, tx⟩ k (Box.later HST.out.1 HBR3.out) HP.out (HST.out.2.1.later HBR3.out) (HST.out.2.2.later HBR3.out) (by omega) HLL.out.1 HLL.out.2 HT1.out HOP.out HOT.out (HSM.out rfl)
         unfold otC at cst
         dsimp only at cst
         clear cs
         go_wp2_with fail
         (with_reducible refine cst.mono ?_)
         rintro e w4 ⟨rfl, hpo4⟩
         have HPO4 := Lib.hid hpo4
         clear cst r0 r1 z0 z1 z2 z3 z4 z5 z6 z7 z8 z9 z10 zl
         rcases hpo4 with ⟨q4, kq4, a4, N4, hB4, hs4, hr4, hla4, hln4⟩ | ⟨hB4, hbb4⟩
         ·
          have hs0 := s19_new hB4 hr4
          have cb := sq_base (hs4.later (Below.refl _ _).drew)
          have ce1 := fun v (hv : Below w4.heap.size w4 v) => sq_end (hs4.later hv) (by omega)
          have ce2 := fun v (hv : Below w4.heap.size w4 v) => rq_end (hr4.later hv) (by omega)
          have cz1 := fun v (hv : Below w4.heap.size w4 v) => sq_size (hs4.later hv) (by omega)
          have cz2 := fun v (hv : Below w4.heap.size w4 v) => rq_size (hr4.later hv) (by omega)
          unfold sp at cb ce1 ce2 cz1 cz2
          generalize endN base N4 = en at *
          generalize (lenN N4 : Int) = ln at *
          clear hB4 hs4 hr4 hla4 hln4
          go_upto_region 19 with fail
          go_region_held3 (fun v => (v.cell? ⟨P, 2, none⟩ = some (.pointer (some ⟨q4, 0, none⟩)) ∧ v.cell? ⟨P, 3, none⟩ = some (.pointer (some ⟨kq4, 0, none⟩)) ∧ v.cell? ⟨kq4, 2, none⟩ = some (.int .i64 base)) ∧ (P < v.heap.size ∧ kq4 < v.heap.size) ∧ Below w4.heap.size w4 v) (first | exact hs0 | assumption)
           (first | ((with_reducible refine cb.mono ?_); rintro e w5 ⟨rfl, hb5⟩; have hc5 := s19_keep hs0 hb5) | ((with_reducible refine (ce1 _ hc5.2.2).mono ?_); rintro e w6 ⟨rfl, hb6⟩; have hc6 := s19_keep hc5 hb6) | ((with_reducible refine (ce2 _ hc6.2.2).mono ?_); rintro e w7 ⟨rfl, hb7⟩; have hc7 := s19_keep hc6 hb7) | ((with_reducible refine (cz1 _ hc7.2.2).mono ?_); rintro e w8 ⟨rfl, hb8⟩; have hc8 := s19_keep hc7 hb8) | ((with_reducible refine (cz2 _ hc8.2.2).mono ?_); rintro e w9 ⟨rfl, hb9⟩; have hc9 := s19_keep hc8 hb9))
          all_goals
           have HF := Lib.hid ((HPO4.out.later hc9.2.2).mono (la2 := 2 * (k + 1) + 1) (ln2 := 524288 + (k + 1)) (by omega) (by omega))
           clear hs0 cb ce1 ce2 cz1 cz2 hb5 hb6 hb7 hb8 hb9 hc5 hc6 hc7 hc8 hc9
           go_wp2_with fail
           go_roundw
           case rel => exact ⟨k + 1, by go_num, hk1, hk2, HF.out⟩
           case measure => simp [intOf]; omega
         ·
          obtain ⟨y0, y1, y2, y3, _, _, yl⟩ := prb_cells hB4
          have HF := Lib.hid (HPO4.out.mono (la2 := 2 * (k + 1) + 1) (ln2 := 524288 + (k + 1)) (by omega) (by omega))
          clear hB4 hbb4
          go_wp2_with fail
          go_quiet (fail)
          go_wp2_with fail
          go_roundw
          case rel => exact ⟨k + 1, by go_num, hk1, hk2, HF.out.later ⟨rfl, rfl, rfl, Nat.le_refl _, fun _ _ => rfl⟩⟩
          case measure => simp [intOf]; omega
      ·
       obtain ⟨y0, y1, y2, y3, _, _, yl⟩ := prb_cells hB
       clear hB
       have cl2 := live_at HT1.out HBW.out
       clear hbxr
       go_wp2_with fail
       (with_reducible refine cl2.mono ?_)
       rintro e w6 ⟨rfl, hb6⟩
       have HF := Lib.hid (HA.out.trans (hb6.mono HA.out.size))
       clear cl2 hb6
       go_wp2_with fail
       go_ret
       exact ⟨rfl, HF.out⟩
     ·
      have hk2i : ¬ (k : Int) < 30 := by omega
      clear hpo
      have cl2 := live_at HT1.out HBW.out
      clear hbxr
      go_wp2_with fail
      (with_reducible refine cl2.mono ?_)
      rintro e w6 ⟨rfl, hb6⟩
      have HF := Lib.hid (HA.out.trans (hb6.mono HA.out.size))
      clear cl2 hb6
      go_wp2_with fail
      go_ret
      exact ⟨rfl, HF.out⟩
    ·
     have hki : ¬ (k : Int) < (l.length : Int) := by omega
     clear hpo
     have cl2 := live_at HT1.out HBW.out
     clear hbxr
     go_wp2_with fail
     (with_reducible refine cl2.mono ?_)
     rintro e w6 ⟨rfl, hb6⟩
     have HF := Lib.hid (HA.out.trans (hb6.mono HA.out.size))
     clear cl2 hb6
     go_wp2_with fail
     go_ret
     exact ⟨rfl, HF.out⟩
  ·
   have cb := open_bad W1.heap.size ⟨#[115, 101, 103]⟩ base every w4 hok
   have HBL := Lib.hid HB4.out.2.1.2
   have hcs : base < 0 ∨ (¬ base < 0 ∧ 1099511627776 < base) ∨ (¬ base < 0 ∧ ¬ (1099511627776 : Int) < base ∧ every < 1) ∨ (¬ base < 0 ∧ ¬ (1099511627776 : Int) < base ∧ ¬ every < 1 ∧ 1000000 < every) := by omega
   clear hok
   rcases hcs with b1 | ⟨b1, b2⟩ | ⟨b1, b2, b3⟩ | ⟨b1, b2, b3, b4⟩
   all_goals
    go_wp2_with fail
    (with_reducible refine cb.mono ?_)
    rintro e w5 ⟨rfl, hb5⟩
    have hbl5 := HBL.out.trans (hb5.mono HBL.out.size)
    have cl2 := live_at HT1.out hbl5
    clear cb hb5 hbl5
    go_wp2_with fail
    (with_reducible refine cl2.mono ?_)
    rintro e w6 ⟨rfl, hb6⟩
    have HF := Lib.hid (HA.out.trans (hb6.mono HA.out.size))
    clear cl2 hb6
    go_wp2_with fail
    go_ret
    exact ⟨rfl, HF.out⟩
 ·
  have hb : room < 1 ∨ 4194304 < room := by omega
  have cn := Dk.new_bad room hrm.1 hrm.2 hb (W.alloc (.cells #[.int .i64 base, .int .i64 every, .int .i64 room, .slice A l.length c] 24))
  have cl2 := live_at hT1 (Below.refl _ _)
  clear hT hT1 hops hA hbx hrm
  unfold runC at *
  dsimp only at *
  go_enter Tryz.func3, Tryz.ntmps3
  go_upto_region 1 with fail
  generalize (W.alloc (.cells #[.int .i64 base, .int .i64 every, .int .i64 room, .slice A l.length c] 24)) = W1 at *
  go_wp2_with fail
  (with_reducible refine cn.mono ?_)
  rintro e w2 ⟨rfl, hw2⟩
  have hw3 := hw2.symm
  subst hw3
  clear hw2 cn
  go_wp2_with fail
  (with_reducible refine cl2.mono ?_)
  rintro e w3 ⟨rfl, hb3⟩
  have HF := Lib.hid (HA.out.trans (hb3.mono HA.out.size))
  clear cl2 hb3
  go_wp2_with fail
  go_ret
  exact ⟨rfl, HF.out⟩
end Go.Proofs.YtjnphajkoopkgaaGreatDoor
