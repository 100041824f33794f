/- Merged texts. What each proves is told at its head. -/
import Derived.Test.YtjnphajkoopkgaaGreatDoorTK
import Derived.Test.YtjnphajkoopkgaaGreatDoorTL
namespace Go.Proofs.YtjnphajkoopkgaaGreatDoor
open Go.RowKit
set_option linter.unusedVariables false
def GotRr (W : World) (N : List BR) (e : Ending) (w' : World) : Prop := ∃ (O : List BX) (A : Option Addr) (c : Nat), O.map BX.told = N ∧ e = .returned (.slice A O.length c) ∧ BsIn w' A O ∧ Below W.heap.size W w'
theorem rr_in {W w w' : World} {p q : Nat} {n : ByteArray} {base : Int} {a : Dk.Ab} {M O : List BX} {B C : Option Addr} {d c : Nat} (h : RD W p q n base a M B d w) (hb : Below w.heap.size w w') (hO : ∀ x ∈ O, x ∈ M) (ho : w'.ownsRow w.heap.size 44 6 (.slice C O.length c) O.length (batsC O)) : BsIn w' C O :=
 row_bsin ho (fun x hx => ((h.later hb).rg.all.recs x (hO x hx)).rsin (bat_recs (h.ok x (hO x hx))).2)
theorem row_more {w : World} {base : Nat} {B : Option Addr} {d : Nat} {M : List BX} (y : BX) (h : w.ownsRow base 44 6 (.slice B M.length d) M.length (batsC M)) (hb : base ≤ w.heap.size) (hl : M.length ≤ 1000000) :
  ∃ (A' : Option Addr) (c' : Nat) (w' : World), (Builtin.append_ #[51, 51] 51 #[.slice B M.length d, .slice (some ⟨w.heap.size, 0, none⟩) 1 1]).run Tryz.prog (w.alloc (.cells (bnC y.1 (.slice y.2.2.1 y.2.1.length y.2.2.2)) 44)) = .ok (.slice A' (M.length + 1) c') w' ∧
   w'.ownsRow base 44 6 (.slice A' (M ++ [y]).length c') (M ++ [y]).length (batsC (M ++ [y])) ∧ Below base w w' := by
 have hA : Below w.heap.size w (w.alloc (.cells (bnC y.1 (.slice y.2.2.1 y.2.1.length y.2.2.2)) 44)) := (Below.refl _ _).alloc (Nat.le_refl _) _
 have h' := own_below h hA
 have hbn := Box.new w 44 (bnC y.1 (.slice y.2.2.1 y.2.1.length y.2.2.2))
 have hsz : base ≤ (w.alloc (.cells (bnC y.1 (.slice y.2.2.1 y.2.1.length y.2.2.2)) 44)).heap.size := Nat.le_trans hb hA.size
 generalize hw9 : (w.alloc (.cells (bnC y.1 (.slice y.2.2.1 y.2.1.length y.2.2.2)) 44)) = w9 at *
 obtain ⟨A', c', w', r1, o1, g1⟩ := catZ (t := 51) (sz := 6) (u := .slice (some ⟨w.heap.size, 0, none⟩) 1 1) (m := 1) (ys := (bnC y.1 (.slice y.2.2.1 y.2.1.length y.2.2.2)).toList) (by decide) Tryz.underlying51 batInfo rfl (by decide) h' (.inr ⟨_, _, rfl, rfl, news_at hbn⟩) (bat_one y.1 y.2.2.1 y.2.1.length y.2.2.2) hsz (by omega)
 refine ⟨A', c', w', r1, ?_, (hA.mono hb).grown g1 hsz (fun j hj => (h'.lt j hj).1)⟩
 rw [batsC_snoc, List.length_append]
 exact o1
theorem own_cap10 {w : World} {base n size : Nat} {t : TypeId} {A : Option Addr} {m cap : Nat} {xs : List Value} (h : w.ownsRow base t size (.slice A m cap) n xs) : m ≤ cap := by
 rcases h.2 with ⟨hv, _⟩ | ⟨g, c2, cur, hv, _, _, h4, _⟩
 ·
  injection hv with e1 e2 e3
  rw [e2, e3]
  exact Nat.le_refl _
 ·
  injection hv with e1 e2 e3
  rw [e2, e3]
  exact h4
set_option maxHeartbeats 16000000 in
set_option maxRecDepth 100000 in
theorem rsrd_c (W w : World) (p q : Nat) (n : ByteArray) (base : Int) (a : Dk.Ab) (M : List BX) (B : Option Addr) (d : Nat) (from_ most : Int) (h : RD W p q n base a M B d w) (hl : M.length ≤ 600000) :
  Calls Tryz.prog 40 #[sp q, .int .i64 from_, .int .i64 most] w (GotRr w (readN from_ most (M.map BX.told))) := by
 have HD := Lib.hid h
 have HRS : Hid (readN from_ most (M.map BX.told) = readS from_ most 0 false ((M.map BX.told).drop 0)) := Lib.hid rfl
 unfold sp
 clear h
 generalize readN from_ most (M.map BX.told) = TT at *
 go_enter Tryz.func40, Tryz.ntmps40
 go_wp2_with fail
 go_loopw [7, 8, 9] (fun l b i wr => ∃ (k m : Nat) (O : List BX) (C : Option Addr) (c : Nat), l = .slice C O.length c ∧ b = .int .i64 m ∧ i = .int .i64 k ∧ k ≤ M.length ∧ O.length ≤ k ∧ m ≤ 60008 * k ∧ TT = O.map BX.told ++ readS from_ most m (decide (0 < O.length)) ((M.map BX.told).drop k) ∧ (∀ x ∈ O, x ∈ M) ∧ wr.ownsRow w.heap.size 44 6 (.slice C O.length c) O.length (batsC O) ∧ Below w.heap.size w wr) (fun _ _ i _ => M.length - (intOf i).toNat)
 case atStart => exact ⟨0, 0, [], none, 0, rfl, rfl, rfl, Nat.zero_le _, Nat.zero_le _, Nat.zero_le _, HRS.out, (fun x hx => by cases hx), World.ownsRow_nil _ _ _ _, Below.refl _ _⟩
 case round =>
  obtain ⟨k, m, O, C, c, rfl, rfl, rfl, hk, hmk, hm, ht, hOM, hO, hbw⟩ := hrel
  have hrd := HD.out.later hbw
  obtain ⟨y0, y1, y2, y3, hql⟩ := hrd.rg.cells
  have HOM := Lib.hid hOM
  have HO := Lib.hid (And.intro hO hbw)
  have HT := Lib.hid ht
  clear hOM ht
  by_cases hkl : k < M.length
  ·
   obtain ⟨x, hx⟩ : ∃ x, M[k]? = some x := ⟨_, List.getElem?_eq_getElem hkl⟩
   have hxm := List.mem_of_getElem? hx
   obtain ⟨b, off, rfl, hbl, hca⟩ := hrd.bsin (by omega)
   obtain ⟨⟨z0, z1, z2, z3, z4, z5⟩, hrs⟩ := hca k x hx
   have hbat := HD.out.ok x hxm
   obtain ⟨⟨n1, n2⟩, n3, n4⟩ := bat_num hbat
   have hez := (encB_size hbat).2
   have hqx : (M.map BX.told)[k]? = some x.told := by rw [List.getElem?_map, hx]; rfl
   have HST := Lib.hid (fun n has => readS_step (from_ := from_) (most := most) (n := n) (has := has) hqx)
   have HQZ : Hid ((encT x.told).size = (encB x.1 x.2.1).size) := Lib.hid (by show (encB x.1 (toRX (x.2.1.map (·.1)))).size = _; rw [encB_congr x.1 (toRX_map _)])
   have HXM := Lib.hid hxm
   have csz := fun v (hv : Below wr.heap.size wr v) => rsize_c x.1 x.2.1 x.2.2.1 x.2.2.2 v (hrs.below hv) (by have := (bat_recs hbat).1; omega)
   have hki : (k : Int) < (M.length : Int) := by omega
   have hk0 : (0 : Int) ≤ (k : Int) := by omega
   have hcap : M.length ≤ d := own_cap10 hrd.rg.all.row
   have HTD : Hid (BX.told x = x.told) := Lib.hid rfl
   have HEQ : Hid (endQ x.told = x.1.base + x.1.span) := Lib.hid rfl
   generalize hXX : x.told = td at *
   obtain ⟨⟨bs, span, prod, epoch, seq⟩, R, RA, rc⟩ := x
   unfold bnC at csz
   dsimp only at *
   clear hrd hca hx hxm hrs hbat hqx hO hbw
   generalize hEZ : (encB ⟨bs, span, prod, epoch, seq⟩ R).size = ez at *
   generalize hk6 : k * 6 = k6 at *
   have hA1 : Below wr.heap.size wr (wr.alloc (.cells #[.int .i64 bs, .int .i64 span, .int .i64 prod, .int .i64 epoch, .int .i64 seq, .slice RA R.length rc] 44)) := (Below.refl _ _).alloc (Nat.le_refl _) _
   have HX1 := Lib.hid (Box.new wr 44 #[.int .i64 bs, .int .i64 span, .int .i64 prod, .int .i64 epoch, .int .i64 seq, .slice RA R.length rc])
   have HA1 := Lib.hid hA1
   have hm6 : m ≤ 36006000000 := by omega
   have cs1 := csz _ hA1
   clear hA1 csz hEZ
   by_cases hle : bs + span ≤ from_
   ·
    have HLE := Lib.hid hle
    have HF := Lib.hid (And.intro (own_below HO.out.1 HA1.out) (HO.out.2.trans (HA1.out.mono HO.out.2.size)))
    clear cs1 hql
    go_wp2_with fail
    go_roundw
    case rel => exact ⟨k + 1, m, O, C, c, rfl, rfl, by go_num, hkl, by omega, by omega, by rw [HT.out, HST.out, if_pos (by rw [HEQ.out]; exact HLE.out)], HOM.out, HF.out.1, HF.out.2⟩
    case measure => simp [intOf]; omega
   ·
    have HLE := Lib.hid hle
    have hnle : ¬ bs + span ≤ from_ := hle
    by_cases hbr : 0 < O.length ∧ most < (m : Int) + (ez : Int)
    ·
     obtain ⟨hb1, hb2⟩ := hbr
     have HBR := Lib.hid (And.intro hb1 hb2)
     have hb1' : (0 : Int) < (O.length : Int) := by omega
     go_wp2_with fail
     (with_reducible refine cs1.mono ?_)
     rintro e w3 ⟨rfl, hb3⟩
     have hbw3 := HA1.out.trans (hb3.mono HA1.out.size)
     have HF := Lib.hid (And.intro (own_below HO.out.1 hbw3) (HO.out.2.trans (hbw3.mono HO.out.2.size)))
     clear hb3 hbw3 cs1 z0 z1 z2 z3 z4 z5 hbl y0 y1 y2 y3 hql
     go_wp2_with fail
     go_ret
     refine ⟨O, C, c, ?_, rfl, rr_in HD.out HF.out.2 HOM.out HF.out.1, HF.out.2⟩
     rw [HT.out, HST.out, if_neg (by rw [HEQ.out]; have := HLE.out; omega), if_pos ⟨by rw [decide_eq_true HBR.out.1], by rw [HQZ.out]; have := HBR.out.2; omega⟩, List.append_nil]
    ·
     have HBR := Lib.hid hbr
     have hcs : (¬ (0 : Int) < (O.length : Int)) ∨ ((0 : Int) < (O.length : Int) ∧ ¬ most < (m : Int) + (ez : Int)) := by omega
     clear hbr
     rcases hcs with hb1' | ⟨hb1', hb2'⟩
     all_goals
      go_wp2_with fail
      (with_reducible refine cs1.mono ?_)
      rintro e w3 ⟨rfl, hb3⟩
      have hbw3 := HA1.out.trans (hb3.mono HA1.out.size)
      have HW3 := Lib.hid hbw3
      have hx3 := HX1.out.later hb3
      have x0 := (hx3.cell 0).trans (show _ = some (Value.int .i64 bs) from rfl)
      have x1 := (hx3.cell 1).trans (show _ = some (Value.int .i64 span) from rfl)
      have x2 := (hx3.cell 2).trans (show _ = some (Value.int .i64 prod) from rfl)
      have x3 := (hx3.cell 3).trans (show _ = some (Value.int .i64 epoch) from rfl)
      have x4 := (hx3.cell 4).trans (show _ = some (Value.int .i64 seq) from rfl)
      have x5 := (hx3.cell 5).trans (show _ = some (Value.slice RA R.length rc) from rfl)
      have x7l := hx3.lt
      obtain ⟨A5, c5, w5, r5, hB5, hb5⟩ := row_more ((⟨bs, span, prod, epoch, seq⟩, R, RA, rc) : BX) (own_below HO.out.1 hbw3) (HO.out.2.trans (hbw3.mono HO.out.2.size)).size (by omega)
      have HF := Lib.hid (And.intro hB5 ((HO.out.2.trans (hbw3.mono HO.out.2.size)).trans hb5))
      unfold bnC at r5
      dsimp only at r5
      clear hb3 hbw3 hB5 hb5 hx3 cs1 z0 z1 z2 z3 z4 z5 hbl y0 y1 y2 y3 hql
      go_wp2_with (at_builtin; refine wpList_append_run rfl (.tmp 46) (.tmp 48) 51 rfl _ _ _ rfl rfl r5 ?_)
      refine ⟨⟨k + 1, m + ez, O ++ [(⟨bs, span, prod, epoch, seq⟩, R, RA, rc)], A5, c5, by rw [List.length_append]; rfl, by go_num, by go_num, hkl, by rw [List.length_append]; show O.length + 1 ≤ _; omega, by omega, ?_, fun y hy => ?_, HF.out.1, HF.out.2⟩, by simp [intOf]; omega⟩
      ·
       rw [HT.out, HST.out, if_neg (by rw [HEQ.out]; have := HLE.out; omega), if_neg (fun h => HBR.out ⟨of_decide_eq_true h.1, by have := h.2; rw [HQZ.out] at this; omega⟩), HQZ.out, List.map_append, List.append_assoc, decide_eq_true (by rw [List.length_append]; show 0 < O.length + 1; omega)]
       congr 1
       rw [← hXX]
       rfl
      ·
       rcases List.mem_append.1 hy with hy | hy
       ·
        exact HOM.out y hy
       ·
        rw [List.mem_singleton] at hy
        subst hy
        exact HXM.out
  ·
   have hki : ¬ (k : Int) < (M.length : Int) := by omega
   have hdr : (M.map BX.told).drop k = [] := List.drop_of_length_le (by rw [List.length_map]; omega)
   have hf : O.map BX.told = TT := by rw [HT.out, hdr]; unfold readS; rw [List.append_nil]
   have HF := Lib.hid (And.intro hf HO.out)
   clear hO hbw hdr hf hrd
   go_wp2_with fail
   go_ret
   exact ⟨O, C, c, HF.out.1, rfl, rr_in HD.out HF.out.2.2 HOM.out HF.out.2.1, HF.out.2.2⟩
set_option maxHeartbeats 16000000 in
set_option maxRecDepth 100000 in
theorem rsaf_c (W w : World) (p q : Nat) (n : ByteArray) (base : Int) (a : Dk.Ab) (M : List BX) (B : Option Addr) (d : Nat) (t : Int) (h : RD W p q n base a M B d w) (hl : M.length ≤ 600000) :
  Calls Tryz.prog 39 #[sp q, .int .i64 t] w (fun e w' => e = .returned (aftV t (M.map BX.told)) ∧ w' = w) := by
 obtain ⟨y0, y1, y2, y3, hql⟩ := h.rg.cells
 have HD := Lib.hid h
 have HB := Lib.hid h.bsin
 unfold sp
 clear h
 go_enter Tryz.func39, Tryz.ntmps39
 go_wp2_with fail
 go_loopw [6] (fun i wr => ∃ k : Nat, i = .int .i64 k ∧ k ≤ M.length ∧ aftN t (M.map BX.told) = aftN t ((M.map BX.told).drop k) ∧ w = wr) (fun i _ => M.length - (intOf i).toNat)
 case atStart => exact ⟨0, rfl, Nat.zero_le _, rfl, rfl⟩
 case round =>
  obtain ⟨k, rfl, hk, ht, hw⟩ := hrel
  subst hw
  by_cases hkl : k < M.length
  ·
   obtain ⟨x, hx⟩ : ∃ x, M[k]? = some x := ⟨_, List.getElem?_eq_getElem hkl⟩
   have hxm := List.mem_of_getElem? hx
   obtain ⟨b, off, rfl, hbl, hca⟩ := HB.out (by omega)
   obtain ⟨⟨z0, z1, z2, z3, z4, z5⟩, hrs⟩ := hca k x hx
   have hr50 := (bat_recs (HD.out.ok x hxm)).1
   have hqx : (M.map BX.told)[k]? = some x.told := by rw [List.getElem?_map, hx]; rfl
   have HST := Lib.hid (ht.trans (aftN_step (t := t) hqx))
   have HRS := Lib.hid hrs
   have hki : (k : Int) < (M.length : Int) := by omega
   have hk0 : (0 : Int) ≤ (k : Int) := by omega
   have hcap : M.length ≤ d := own_cap10 HD.out.rg.all.row
   obtain ⟨⟨bs, span, prod, epoch, seq⟩, R, RA, rc⟩ := x
   have HST2 : Hid (aftN t (M.map BX.told) = if anyT (R.map (·.1)) t = true then (bs, true) else aftN t ((M.map BX.told).drop (k + 1))) := HST
   dsimp only at *
   clear hca hx hxm hrs hqx ht HST
   generalize hk6 : k * 6 = k6 at *
   go_wp2_with fail
   go_loopw [7] (fun i wr => ∃ j : Nat, i = .int .i64 j ∧ j ≤ R.length ∧ anyT ((R.map (·.1)).take j) t = false ∧ w = wr) (fun i _ => R.length - (intOf i).toNat)
   case atStart => exact ⟨0, rfl, Nat.zero_le _, rfl, rfl⟩
   case round =>
    obtain ⟨j, rfl, hj, hn, hw⟩ := hrel
    subst hw
    by_cases hjl : j < R.length
    ·
     obtain ⟨y, hy⟩ : ∃ y, R[j]? = some y := ⟨_, List.getElem?_eq_getElem hjl⟩
     have hym : (R.map (·.1))[j]? = some y.1 := by rw [List.getElem?_map, hy]; rfl
     obtain ⟨b2, off2, rfl, hbl2, hca2⟩ := HRS.out (by omega)
     obtain ⟨⟨p0, p1, p2, p3, p4, p5, p6⟩, _⟩ := hca2 j y hy
     have HY := Lib.hid (And.intro (anyT_take (t := t) hym hn) (fun h => anyT_in (t := t) hym h))
     have hji : (j : Int) < (R.length : Int) := by omega
     have hj0 : (0 : Int) ≤ (j : Int) := by omega
     obtain ⟨⟨pl, tm, ba, ky, gn, va, hs⟩, hA2, hcc⟩ := y
     dsimp only at *
     clear hca2 hy hym hn
     generalize hj7 : j * 7 = j7 at *
     by_cases hc : t ≤ tm
     ·
      have HC := Lib.hid hc
      go_wp2_with fail
      go_ret2
      refine ⟨?_, rfl⟩
      unfold aftV
      rw [HST2.out, if_pos (HY.out.2 HC.out)]
      rfl
     ·
      have HC := Lib.hid hc
      have hc' : tm < t := by omega
      go_wp2_with fail
      go_roundw
      case rel => exact ⟨j + 1, by go_num, hjl, by rw [HY.out.1]; exact decide_eq_false HC.out, trivial⟩
      case measure => simp [intOf]; omega
    ·
     have hji : ¬ (j : Int) < (R.length : Int) := by omega
     have e1 : (R.map (·.1)).take j = R.map (·.1) := List.take_of_length_le (by rw [List.length_map]; omega)
     rw [e1] at hn
     have HN := Lib.hid hn
     clear hn e1
     go_wp2_with fail
     go_roundw
     case rel => exact ⟨k + 1, by go_num, hkl, HST2.out.trans (if_neg (by rw [HN.out]; decide)), trivial⟩
     case measure => simp [intOf]; omega
  ·
   have hki : ¬ (k : Int) < (M.length : Int) := by omega
   have hdr : (M.map BX.told).drop k = [] := List.drop_eq_nil_of_le (by rw [List.length_map]; omega)
   rw [hdr] at ht
   have HT := Lib.hid ht
   clear ht hdr
   go_wp2_with fail
   go_ret2
   refine ⟨?_, rfl⟩
   unfold aftV
   rw [HT.out]
   rfl
end Go.Proofs.YtjnphajkoopkgaaGreatDoor
namespace Go.Proofs.YtjnphajkoopkgaaGreatDoor
open Go.RowKit
set_option linter.unusedVariables false
def SQ (W : World) (p q : Nat) (n : ByteArray) (base : Int) (a : Dk.Ab) (N : List BR) (w : World) : Prop := ∃ s, SD W p q a s w ∧ s.name = n ∧ s.base = base ∧ s.L.map PX.told = N
def RQ (W : World) (p q : Nat) (n : ByteArray) (base : Int) (a : Dk.Ab) (N : List BR) (w : World) : Prop := ∃ M B d, RD W p q n base a M B d w ∧ M.map BX.told = N
def DocK (W w : World) (k : Nat) : Prop := W.heap.size ≤ k ∧ TyB RfT w k
section
variable {W w w' : World} {p q : Nat} {n : ByteArray} {base : Int} {a a' : Dk.Ab} {N : List BR}
theorem SQ.later (h : SQ W p q n base a N w) (hb : Below w.heap.size w w') : SQ W p q n base a N w' := by
 obtain ⟨s, h1, h2⟩ := h
 exact ⟨s, h1.later hb, h2⟩
theorem RQ.later (h : RQ W p q n base a N w) (hb : Below w.heap.size w w') : RQ W p q n base a N w' := by
 obtain ⟨M, B, d, h1, h2⟩ := h
 exact ⟨M, B, d, h1.later hb, h2⟩
theorem SQ.bel (h : SQ W p q n base a N w) : Below W.heap.size W w := by
 obtain ⟨s, h1, h2⟩ := h
 exact h1.bel
theorem SQ.at_ (h : SQ W p q n base a N w) : Dk.At W p a w := by
 obtain ⟨s, h1, h2⟩ := h
 exact h1.dk
theorem RQ.kd (h : RQ W p q n base a N w) : Dk.Kd.KIs w p a (KS W w) := by
 obtain ⟨M, B, d, h1, h2⟩ := h
 exact h1.kd
theorem RQ.bel (h : RQ W p q n base a N w) : Below W.heap.size W w := by
 obtain ⟨M, B, d, h1, h2⟩ := h
 exact h1.bel
theorem SQ.doc (h : SQ W p q n base a N w) (ho : Off (DocK W w) w w') : SQ W p q n base a N w' := by
 obtain ⟨s, h1, h2⟩ := h
 exact ⟨s, h1.doc ho (fun k hk => hk), h2⟩
theorem RQ.seg (h : RQ W p q n base a N w) (ho : Off (SegK w) w w') (hb : Below W.heap.size W w') : RQ W p q n base a N w' := by
 obtain ⟨M, B, d, h1, h2⟩ := h
 exact ⟨M, B, d, h1.seg ho hb, h2⟩
theorem ks_doc {k : Nat} (h : KS W w k) : DocK W w k := ⟨h.1, tyb_mono h.2 (by decide)⟩
theorem SQ.pair {g : Nat} {cs : Array Value} (h : SQ W p q n base a N w) (hg : Box w g 38 cs) (hW : W.heap.size ≤ g) (ho : Off (· = g) w w') : SQ W p q n base a N w' := by
 obtain ⟨s, h1, h2⟩ := h
 have ty : TyB [38] w g := .box hg (List.mem_singleton.2 rfl)
 exact ⟨s, ⟨at_off h1.dk ho (fun k hk _ hd => hd.apart (hk ▸ ty) (by decide)) (fun k hk => hk ▸ hW), h1.sg.off ho (fun k hk ht => (sg_kind h1.sg hk).apart (ht ▸ ty) (by decide)) (fun k ht hr => hr.apart (ht ▸ ty) (by decide)), h1.hp, h1.ok⟩, h2⟩
theorem RQ.pair {g : Nat} {cs : Array Value} (h : RQ W p q n base a N w) (hg : Box w g 38 cs) (hW : W.heap.size ≤ g) (ho : Off (· = g) w w') : RQ W p q n base a N w' := by
 obtain ⟨M, B, d, h1, h2⟩ := h
 have ty : TyB [38] w g := .box hg (List.mem_singleton.2 rfl)
 exact ⟨M, B, d, ⟨kis_off h1.kd ho (fun k hk ht => ht.apart (hk ▸ ty) (by decide)), h1.rg.off ho (fun k hk ht => ht.apart (hk ▸ ty) (by decide)), h1.bel.trans (ho.below h1.bel.size (fun k hk => hk ▸ hW)), h1.ok⟩, h2⟩
theorem RQ.cells (h : RQ W p q n base a N w) : w.cell? ⟨q, 2, none⟩ = some (.int .i64 base) ∧ q < w.heap.size := by
 obtain ⟨M, B, d, h1, h2⟩ := h
 exact ⟨h1.rg.cells.2.2.1, h1.rg.cells.2.2.2.2⟩
theorem sq_end (h : SQ W p q n base a N w) (hl : N.length ≤ 600000) : Calls Tryz.prog 14 #[sp q] w (Good w (.int .i64 (endN base N))) := by
 obtain ⟨s, h1, h2, h3, h4⟩ := h
 have hl' : s.L.length ≤ 600000 := by rw [← h4, List.length_map] at hl; exact hl
 have hc := end_c s W.heap.size q w h1.sg (h1.ok.px hl') (by omega)
 rw [end_told ⟨rfl, rfl, rfl⟩ h4, h3] at hc
 exact hc
theorem sq_size (h : SQ W p q n base a N w) (hl : N.length ≤ 600000) : Calls Tryz.prog 16 #[sp q] w (Good w (.int .i64 (lenN N : Int))) := by
 obtain ⟨s, h1, h2, h3, h4⟩ := h
 have hl' : s.L.length ≤ 600000 := by rw [← h4, List.length_map] at hl; exact hl
 have hc := size_c s W.heap.size q w h1.sg (h1.ok.px hl') (by omega)
 rw [h1.ok.size, ← lenN_told, h4] at hc
 exact hc
theorem sq_base (h : SQ W p q n base a N w) : Calls Tryz.prog 13 #[sp q] w (Good w (.int .i64 base)) := by
 obtain ⟨s, h1, h2, h3, h4⟩ := h
 refine (base_c s W.heap.size q w h1.sg).mono ?_
 rintro e w' ⟨rfl, rfl⟩
 exact ⟨by rw [h3], Below.refl _ _⟩
theorem rq_end (h : RQ W p q n base a N w) (hl : N.length ≤ 600000) : Calls Tryz.prog 15 #[sp q] w (Good w (.int .i64 (endN base N))) := by
 obtain ⟨M, B, d, h1, h2⟩ := h
 have hl' : M.length ≤ 600000 := by rw [← h2, List.length_map] at hl; exact hl
 have hc := rd_end h1 (by omega)
 rw [h2] at hc
 exact hc
theorem rq_size (h : RQ W p q n base a N w) (hl : N.length ≤ 600000) : Calls Tryz.prog 17 #[sp q] w (Good w (.int .i64 (lenN N : Int))) := by
 obtain ⟨M, B, d, h1, h2⟩ := h
 have hl' : M.length ≤ 600000 := by rw [← h2, List.length_map] at hl; exact hl
 have hc := rd_size h1 hl'
 rw [h2] at hc
 exact hc
def SqOut (W : World) (p q : Nat) (n : ByteArray) (base : Int) (w : World) (v : Value) (a' : Dk.Ab) (N' : List BR) (e : Ending) (w' : World) : Prop := e = .returned v ∧ SQ W p q n base a' N' w' ∧ Off (SegK w) w w'
def RqOut (W : World) (p q : Nat) (n : ByteArray) (base : Int) (w : World) (v : Value) (a' : Dk.Ab) (N' : List BR) (e : Ending) (w' : World) : Prop := e = .returned v ∧ RQ W p q n base a' N' w' ∧ Off (DocK W w) w w'
theorem sq_out {s : SG} {v : Value} {N' : List BR} {e : Ending} (h : SD W p q a s w) (hn : s.name = n) (hb : s.base = base) (hg : GotSd W p q s w v a' N' e w') : SqOut W p q n base w v a' N' e w' := by
 obtain ⟨rfl, s', g1, g2, g3, g4, _⟩ := hg
 exact ⟨rfl, ⟨s', g1, g3.1.trans hn, g3.2.1.trans hb, g2⟩, g4.mono fun k _ hk => sd_seg h hk⟩
theorem rq_out {M : List BX} {B : Option Addr} {d : Nat} {v : Value} {N' : List BR} {e : Ending} (h : RD W p q n base a M B d w) (hg : GotRdd W p q n base B w v a' N' e w') : RqOut W p q n base w v a' N' e w' := by
 obtain ⟨rfl, M', B', d', g1, g2, g3⟩ := hg
 exact ⟨rfl, ⟨M', B', d', g1, g2⟩, g3.mono fun k _ hk => ⟨(h.low hk).1, h.kind hk⟩⟩
theorem sq_app (h : SQ W p q n base a N w) (hT : Tab W) (hl : N.length ≤ 600000) (ha : a.L.length ≤ 1000000) (b : BN) (R : List RX) (A : Option Addr) (c : Nat) (hin : RsIn w A R) (hR : R.length ≤ 140737488351232) :
  Calls Tryz.prog 19 #[sp q, .agg (bnC b (.slice A R.length c))] w (SqOut W p q n base w (.int .i64 (gE a n (endN base N) b R)) (gA a n (endN base N) b R) (gN a n (endN base N) b R N)) := by
 obtain ⟨s, h1, h2, h3, h4⟩ := h
 have hl' : s.L.length ≤ 600000 := by rw [← h4, List.length_map] at hl; exact hl
 have hc := append_c W w p q a s b R A c h1 hT hl' ha hin hR
 rw [apE_g, apA_g, apN_g, end_told ⟨rfl, rfl, rfl⟩ h4, h3, h2, h4] at hc
 exact hc.mono fun e w' hg => sq_out h1 h2 h3 hg
theorem sq_sync (h : SQ W p q n base a N w) : Calls Tryz.prog 20 #[sp q] w (SqOut W p q n base w (.int .i64 (gsyE a n)) (Dk.syncA a n.data.toList) N) := by
 obtain ⟨s, h1, h2, h3, h4⟩ := h
 have hc := sync_c W w p q a s h1
 rw [syE_g, h2, h4] at hc
 exact hc.mono fun e w' hg => sq_out h1 h2 h3 hg
theorem rq_sync (h : RQ W p q n base a N w) (ha : Dk.Kd.AbOk a) (hlen : a.L.length ≤ 1000000) : Calls Tryz.prog 34 #[sp q] w (RqOut W p q n base w (.int .i64 (gsyE a n)) (Dk.syncA a n.data.toList) N) := by
 obtain ⟨M, B, d, h1, h2⟩ := h
 have hc := rsync_c W w p q n base a M B d h1 ha hlen
 rw [h2] at hc
 exact hc.mono fun e w' hg => rq_out h1 hg
theorem sq_read (h : SQ W p q n base a N w) (hl : N.length ≤ 600000) (from_ most : Int) : Calls Tryz.prog 21 #[sp q, .int .i64 from_, .int .i64 most] w (GotRd w (readN from_ most N)) := by
 obtain ⟨s, h1, h2, h3, h4⟩ := h
 have hl' : s.L.length ≤ 600000 := by rw [← h4, List.length_map] at hl; exact hl
 have hc := sread_c W w p q a s from_ most h1 hl'
 rw [h4] at hc
 exact hc
theorem rq_read (h : RQ W p q n base a N w) (hl : N.length ≤ 600000) (from_ most : Int) : Calls Tryz.prog 40 #[sp q, .int .i64 from_, .int .i64 most] w (GotRr w (readN from_ most N)) := by
 obtain ⟨M, B, d, h1, h2⟩ := h
 have hl' : M.length ≤ 600000 := by rw [← h2, List.length_map] at hl; exact hl
 have hc := rsrd_c W w p q n base a M B d from_ most h1 hl'
 rw [h2] at hc
 exact hc
theorem sq_aft (h : SQ W p q n base a N w) (hl : N.length ≤ 600000) (t : Int) : Calls Tryz.prog 18 #[sp q, .int .i64 t] w (Good w (aftV t N)) := by
 obtain ⟨s, h1, h2, h3, h4⟩ := h
 have hl' : s.L.length ≤ 600000 := by rw [← h4, List.length_map] at hl; exact hl
 have hc := after_c W w p q a s t h1 hl'
 rw [h4] at hc
 exact hc
theorem rq_aft (h : RQ W p q n base a N w) (hl : N.length ≤ 600000) (t : Int) : Calls Tryz.prog 39 #[sp q, .int .i64 t] w (Good w (aftV t N)) := by
 obtain ⟨M, B, d, h1, h2⟩ := h
 have hl' : M.length ≤ 600000 := by rw [← h2, List.length_map] at hl; exact hl
 have hc := rsaf_c W w p q n base a M B d t h1 hl'
 rw [h2] at hc
 refine hc.mono ?_
 rintro e w' ⟨rfl, rfl⟩
 exact ⟨rfl, Below.refl _ _⟩
theorem fuse_of (n : Int) (hn : -1 ≤ n) (a : Dk.Ab) : Dk.Kd.fuseOf (Dk.fuseA a n) = n := by
 unfold Dk.Kd.fuseOf Dk.fuseA
 simp only
 by_cases h0 : 0 ≤ n
 ·
  rw [decide_eq_true h0, if_pos rfl]; omega
 ·
  rw [decide_eq_false h0]; simp; omega
theorem sq_fuse (h : SQ W p q n base a N w) (k : Int) (h0 : -1 ≤ k) (hx : k ≤ 9223372036854775807) : Calls Tryz.prog 35 #[Dk.dp p, .int .i64 k] w (SqOut W p q n base w (.int .i64 0) (Dk.fuseA a k) N) := by
 obtain ⟨s, h1, h2, h3, h4⟩ := h
 refine ((Dk.fuse_do p a (AtS W w) w (at_kind h1.dk) k h0 hx).mono (fun _ _ hd => h1.disk (at_out h1.dk hd))).mono ?_
 rintro e w' ⟨rfl, g1, g2⟩
 exact ⟨rfl, ⟨s, g1, h2, h3, h4⟩, g2.mono fun k _ hk => at_seg hk⟩
theorem rq_fuse (h : RQ W p q n base a N w) (k : Int) (h0 : -1 ≤ k) : w.frozen? ⟨p, 2, none⟩ = false ∧ (∃ u, w.cell? ⟨p, 2, none⟩ = some (.int .i64 u)) ∧ p < w.heap.size ∧ RQ W p q n base (Dk.fuseA a k) N (w.setCell ⟨p, 2, none⟩ (.int .i64 k)) ∧ Off (DocK W w) w (w.setCell ⟨p, 2, none⟩ (.int .i64 k)) := by
 obtain ⟨M, B, d, h1, h2⟩ := h
 have hI := h1.kd
 obtain ⟨v, hk, hp, hv⟩ := hI
 have ho := Off.one w ⟨p, 2, none⟩ (.int .i64 k)
 have ho2 : Off (KS W w) w (w.setCell ⟨p, 2, none⟩ (.int .i64 k)) := ho.mono (fun i _ e => e ▸ hp)
 have hkd : Dk.Kd.KIs (w.setCell ⟨p, 2, none⟩ (.int .i64 k)) p (Dk.fuseA a k) (KS W (w.setCell ⟨p, 2, none⟩ (.int .i64 k))) := by
  refine kis_kind (S := KS W w) ⟨v, ⟨?_, own_off hk.row ho (fun j hj e => hk.ne j hj e)⟩, hp, hv⟩ (fun k hk => hk.1)
  rw [fuse_of k h0]
  exact hk.box.set 2 (.int .i64 k)
 exact ⟨hk.box.frozen 2, ⟨_, (hk.box.cell 2).trans rfl⟩, hk.box.lt, ⟨M, B, d, h1.disk hkd ho2, h2⟩, ho2.mono fun k _ hk => ks_doc hk⟩
theorem totL_mem {L : List Dk.AF} {x : Dk.AF} (h : x ∈ L) : x.2.1.length ≤ Dk.totL L := by
 unfold Dk.totL
 induction L with
 | nil => cases h
 | cons y l ih =>
  rw [List.map_cons, List.sum_cons]
  rcases List.mem_cons.1 h with rfl | h
  ·
   omega
  ·
   have := ih h
   omega
theorem file_small (h : Dk.Kd.AbOk a) (n : ByteArray) : (fileT a n).size ≤ 4194304 := by
 have h1 := h.tot
 have h2 := h.room
 show (Dk.readV a n.data.toList).toArray.size ≤ _
 rw [List.size_toArray]
 unfold Dk.readV
 split
 ·
  rename_i x hu hf
  have h3 := totL_mem (List.mem_of_find?_eq_some hf)
  omega
 ·
  exact Nat.zero_le _
theorem opN_few (h : Dk.Kd.AbOk a) (n : ByteArray) (base : Int) : (opN a n base).length ≤ 524288 := by
 obtain ⟨h1, h2⟩ := scan_few (file_small h n)
 have h3 := (scan_good (s := fileT a n) ((fileT a n).size + 1) 0).1
 have h4 := lenN_ge h3
 have h5 := file_small h n
 obtain ⟨M, hM⟩ := followN_sub base (scanG (fileT a n) ((fileT a n).size + 1) 0).1
 have h6 := congrArg List.length hM
 rw [List.length_append] at h6
 unfold opN
 omega
theorem opA_len (n : ByteArray) (base : Int) : (opA a n base).L.length ≤ a.L.length + 1 := by
 unfold opA
 split
 ·
  unfold Dk.cutA
  split
  ·
   split
   ·
    omega
   ·
    simp only; rw [Dk.setL_len]; omega
  ·
   omega
 ·
  omega
theorem app_len10 (n s : ByteArray) : (Dk.appA a n s).L.length ≤ a.L.length + 1 := by
 unfold Dk.appA
 split
 ·
  simp only
  split
  ·
   rw [Dk.setL_len]; omega
  ·
   rw [Dk.insL_len]; omega
 ·
  omega
theorem gA_len (n : ByteArray) (en : Int) (b : BN) (R : List RX) : (gA a n en b R).L.length ≤ a.L.length + 1 := by
 unfold gA
 split
 ·
  exact app_len10 n _
 ·
  omega
theorem gN_len (n : ByteArray) (en : Int) (b : BN) (R : List RX) : (gN a n en b R N).length ≤ N.length + 1 := by
 unfold gN
 split
 ·
  rw [List.length_append]; exact Nat.le_refl _
 ·
  omega
theorem sync_len10 (n : List UInt8) : (Dk.syncA a n).L.length ≤ a.L.length + 1 := by
 unfold Dk.syncA
 split
 ·
  simp only; rw [Dk.setL_len]; omega
 ·
  omega
theorem tear_len10 (keep : List Int) : ∀ (L : List Dk.AF) (t : Nat), (Dk.tearL keep t L).1.length = L.length
 | [], _ => rfl
 | x :: r, t => by
  rw [Dk.tearL]
  split
  ·
   simp [tear_len10 keep r t]
  ·
   simp [tear_len10 keep r (t + 1)]
theorem crash_len10 (keep : List Int) : (Dk.crashA a keep).L.length ≤ a.L.length + 1 := by
 show (Dk.tearL keep 0 a.L).1.length ≤ _
 rw [tear_len10]
 omega
end
theorem ropen_down (W w : World) (p : Nat) (a : Dk.Ab) (n : ByteArray) (base : Int) (hk : Dk.Kd.KIs w p a (KS W w)) (ha : Dk.Kd.AbOk a) (hlen : a.L.length ≤ 1000000) (hup : Dk.upA a = false) :
  Calls Tryz.prog 32 #[Dk.dp p, .string n, .int .i64 base] w (Good w (.tuple #[.pointer none, .int .i64 7])) := by
 have crd := Dk.Kd.kread_c p a (KS W w) n w hk ha hlen
 have hsee : Dk.seeE a n.data.toList = 7 := by unfold Dk.seeE; rw [hup]; rfl
 rw [hsee] at crd
 clear hk ha hup hsee
 unfold Dk.dp at *
 generalize (⟨(Dk.readV a n.data.toList).toArray⟩ : ByteArray) = t at *
 go_enter Tryz.func32, Tryz.ntmps32
 go_wp2_with fail
 (with_reducible refine crd.mono ?_)
 rintro e w0 ⟨rfl, hw⟩
 have hw' := hw.symm
 subst hw'
 clear crd hw
 go_wp2_with fail
 go_ret2
 exact ⟨rfl, Below.refl _ _⟩
end Go.Proofs.YtjnphajkoopkgaaGreatDoor
