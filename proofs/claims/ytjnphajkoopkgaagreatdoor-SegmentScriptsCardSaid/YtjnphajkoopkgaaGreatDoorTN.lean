/- Merged texts. What each proves is told at its head. -/
import Derived.Test.YtjnphajkoopkgaaGreatDoorTM
namespace Go.Proofs.YtjnphajkoopkgaaGreatDoor
open Go.RowKit
set_option linter.unusedVariables false
def segN : ByteArray := ⟨#[115, 101, 103]⟩
def PrB (w : World) (P p kp : Nat) (v2 v3 : Value) : Prop := Box w P 38 #[.pointer (some ⟨p, 0, none⟩), .pointer (some ⟨kp, 0, none⟩), v2, v3]
def PO (W : World) (P p kp : Nat) (base : Int) (la ln : Nat) (w : World) : Prop :=
 (∃ q kq a N, PrB w P p kp (sp q) (sp kq) ∧ SQ W p q segN base a N w ∧ RQ W kp kq segN base a N w ∧ a.L.length ≤ la ∧ N.length ≤ ln) ∨ (PrB w P p kp (.pointer none) (.pointer none) ∧ Below W.heap.size W w)
theorem prb_cells {w : World} {P p kp : Nat} {v2 v3 : Value} (h : PrB w P p kp v2 v3) : w.cell? ⟨P, 0, none⟩ = some (.pointer (some ⟨p, 0, none⟩)) ∧ w.cell? ⟨P, 1, none⟩ = some (.pointer (some ⟨kp, 0, none⟩)) ∧ w.cell? ⟨P, 2, none⟩ = some v2 ∧ w.cell? ⟨P, 3, none⟩ = some v3 ∧ w.frozen? ⟨P, 2, none⟩ = false ∧ w.frozen? ⟨P, 3, none⟩ = false ∧ P < w.heap.size :=
 ⟨Box.cell h 0, Box.cell h 1, Box.cell h 2, Box.cell h 3, Box.frozen h 2, Box.frozen h 3, Box.lt h⟩
theorem prb_ats {W w w' : World} {P p kp : Nat} {v2 v3 : Value} (h : PrB w P p kp v2 v3) (ho : Off (AtS W w) w w') : PrB w' P p kp v2 v3 := Box.off h ho (fun hk => hk.2.apart (.box h (List.mem_singleton.2 rfl) : TyB [38] w P) (by decide))
theorem prb_ks {W w w' : World} {P p kp : Nat} {v2 v3 : Value} (h : PrB w P p kp v2 v3) (ho : Off (KS W w) w w') : PrB w' P p kp v2 v3 := Box.off h ho (fun hk => hk.2.apart (.box h (List.mem_singleton.2 rfl) : TyB [38] w P) (by decide))
theorem prb_seg {w w' : World} {P p kp : Nat} {v2 v3 : Value} (h : PrB w P p kp v2 v3) (ho : Off (SegK w) w w') : PrB w' P p kp v2 v3 := Box.off h ho (fun hk => seg_apart hk (.box h (List.mem_singleton.2 rfl) : TyB [38] w P) (by decide) (by decide))
theorem prb_doc {W w w' : World} {P p kp : Nat} {v2 v3 : Value} (h : PrB w P p kp v2 v3) (ho : Off (DocK W w) w w') : PrB w' P p kp v2 v3 := Box.off h ho (fun hk => hk.2.apart (.box h (List.mem_singleton.2 rfl) : TyB [38] w P) (by decide))
section
variable {W w : World} {p : Nat} {n : ByteArray} {base every : Int} {a : Dk.Ab}
theorem sq_open (h : Dk.At W p a w) (hT : Tab W) (hok : OpOk n base every) (hup : Dk.upA a = true) :
  Calls Tryz.prog 9 #[Dk.dp p, .string n, .int .i64 base, .int .i64 every] w (fun e w' => ∃ q, e = .returned (.tuple #[sp q, .int .i64 0]) ∧ SQ W p q n base (opA a n base) (opN a n base) w' ∧ Off (AtS W w) w w') := by
 refine (open_c W w p a n base every h hT hok hup (file_small (Dk.Kd.Is.ok h.1) n)).mono ?_
 rintro e w' ⟨q, s, rfl, g1, g2, g3, g4, g5, _, g6⟩
 exact ⟨q, rfl, ⟨s, g1, g2, g3, g5⟩, g6⟩
theorem rq_open (hk : Dk.Kd.KIs w p a (KS W w)) (hb : Below W.heap.size W w) (ha : Dk.Kd.AbOk a) (hlen : a.L.length ≤ 1000000) (hup : Dk.upA a = true) :
  Calls Tryz.prog 32 #[Dk.dp p, .string n, .int .i64 base] w (fun e w' => ∃ q, e = .returned (.tuple #[sp q, .int .i64 0]) ∧ RQ W p q n base (opA a n base) (opN a n base) w' ∧ Off (KS W w) w w') := by
 refine (ropen_c W w p a n base hk hb ha hlen hup (file_small ha n)).mono ?_
 rintro e w' ⟨q, M, B, d, rfl, g1, g2, g3⟩
 exact ⟨q, rfl, ⟨M, B, d, g1, g2⟩, g3⟩
end
theorem po_store {W w : World} {P p kp q kq : Nat} {v2 v3 : Value} {base : Int} {a : Dk.Ab} {N : List BR} {la ln : Nat} (hB : PrB w P p kp v2 v3) (hP : W.heap.size ≤ P) (h1 : SQ W p q segN base a N w) (h2 : RQ W kp kq segN base a N w) (h3 : a.L.length ≤ la) (h4 : N.length ≤ ln) : PO W P p kp base la ln ((w.setCell ⟨P, 2, none⟩ (sp q)).setCell ⟨P, 3, none⟩ (sp kq)) := by
 have b1 : PrB (w.setCell ⟨P, 2, none⟩ (sp q)) P p kp (sp q) v3 := Box.set hB 2 (sp q)
 have b2 : PrB ((w.setCell ⟨P, 2, none⟩ (sp q)).setCell ⟨P, 3, none⟩ (sp kq)) P p kp (sp q) (sp kq) := Box.set b1 3 (sp kq)
 exact .inl ⟨q, kq, a, N, b2, (h1.pair hB hP (Off.one w ⟨P, 2, none⟩ _)).pair b1 hP (Off.one _ ⟨P, 3, none⟩ _), (h2.pair hB hP (Off.one w ⟨P, 2, none⟩ _)).pair b1 hP (Off.one _ ⟨P, 3, none⟩ _), h3, h4⟩
theorem po_none {W w : World} {P p kp : Nat} {v2 v3 : Value} {base : Int} {la ln : Nat} (hB : PrB w P p kp v2 v3) (hP : W.heap.size ≤ P) (hb : Below W.heap.size W w) : PO W P p kp base la ln ((w.setCell ⟨P, 2, none⟩ (.pointer none)).setCell ⟨P, 3, none⟩ (.pointer none)) := by
 have b1 : PrB (w.setCell ⟨P, 2, none⟩ (.pointer none)) P p kp (.pointer none) v3 := Box.set hB 2 (.pointer none)
 have b2 : PrB ((w.setCell ⟨P, 2, none⟩ (.pointer none)).setCell ⟨P, 3, none⟩ (.pointer none)) P p kp (.pointer none) (.pointer none) := Box.set b1 3 (.pointer none)
 have o1 : Below W.heap.size W (w.setCell ⟨P, 2, none⟩ (.pointer none)) := hb.trans ((Off.one w ⟨P, 2, none⟩ _).below hb.size (fun k hk => hk ▸ hP))
 exact .inr ⟨b2, o1.trans ((Off.one _ ⟨P, 3, none⟩ _).below o1.size (fun k hk => hk ▸ hP))⟩
set_option maxHeartbeats 8000000 in
set_option maxRecDepth 100000 in
theorem opens_c (W w : World) (P p kp : Nat) (v2 v3 : Value) (base every : Int) (a : Dk.Ab) (hB : PrB w P p kp v2 v3) (hP : W.heap.size ≤ P) (h : Dk.At W p a w) (hk : Dk.Kd.KIs w kp a (KS W w)) (hT : Tab W) (hok : OpOk segN base every) (hlen : a.L.length ≤ 1000) :
  Calls Tryz.prog 10 #[.pointer (some ⟨P, 0, none⟩), .int .i64 base, .int .i64 every] w (fun e w' => e = .returned (.bool true) ∧ PO W P p kp base (a.L.length + 1) 524288 w') := by
 have ha := Dk.Kd.Is.ok h.1
 obtain ⟨y0, y1, y2, y3, f2, f3, yl⟩ := prb_cells hB
 have HB := Lib.hid hB
 have HH := Lib.hid (And.intro h hk)
 have HA := Lib.hid ha
 cases hup : Dk.upA a with
 | true =>
  have c1 := sq_open h hT hok hup
  have HUP := Lib.hid hup
  have HFN := Lib.hid (opN_few ha segN base)
  have HFA := Lib.hid (opA_len (a := a) segN base)
  clear h hk hT hok hB ha hup f2 f3
  unfold Dk.dp sp segN at c1
  go_enter Tryz.func10, Tryz.ntmps10
  go_wp2_with fail
  (with_reducible refine c1.mono ?_)
  rintro e w1 ⟨q, rfl, hs1, ho1⟩
  have hB1 := prb_ats HB.out ho1
  have hk1 := kis_off HH.out.2 ho1 (fun k hk ht => hk.2.apart ht (by decide))
  have c2 := rq_open (n := segN) (base := base) hk1 hs1.bel HA.out (by omega) HUP.out
  have HB1 := Lib.hid hB1
  have HS1 := Lib.hid hs1
  unfold Dk.dp sp segN at c2
  clear y0 y1 y2 y3 yl hB1 hk1 c1 ho1 hs1
  obtain ⟨y0, y1, y2, y3, f2, f3, yl⟩ := prb_cells HB1.out
  clear f2 f3
  go_wp2_with fail
  (with_reducible refine c2.mono ?_)
  rintro e w2 ⟨kq, rfl, hr2, ho2⟩
  have hB2 := prb_ks HB1.out ho2
  have HF := Lib.hid (po_store hB2 hP (HS1.out.doc (ho2.mono fun k _ hk => ks_doc hk)) hr2 HFA.out HFN.out)
  clear y0 y1 y2 y3 yl c2 ho2 hr2
  obtain ⟨y0, y1, y2, y3, f2, f3, yl⟩ := prb_cells hB2
  unfold sp at HF
  clear hB2
  go_wp2_with fail
  go_ret
  exact ⟨rfl, HF.out⟩
 | false =>
  have c1 := open_down W w p a segN base every h hok hup
  have HUP := Lib.hid hup
  clear h hk hT hok hB ha hup f2 f3
  unfold Dk.dp segN at c1
  go_enter Tryz.func10, Tryz.ntmps10
  go_wp2_with fail
  (with_reducible refine c1.mono ?_)
  rintro e w1 ⟨rfl, hb1⟩
  have hB1 : PrB w1 P p kp v2 v3 := Box.later HB.out hb1
  have hk1 := kis_later HH.out.2 hb1
  have c2 := ropen_down W w1 kp a segN base hk1 HA.out (by omega) HUP.out
  have HB1 := Lib.hid hB1
  have HW1 := Lib.hid (HH.out.1.2.trans (hb1.mono HH.out.1.2.size))
  unfold Dk.dp segN at c2
  clear y0 y1 y2 y3 yl hB1 hk1 c1 hb1
  obtain ⟨y0, y1, y2, y3, f2, f3, yl⟩ := prb_cells HB1.out
  clear f2 f3
  go_wp2_with fail
  (with_reducible refine c2.mono ?_)
  rintro e w2 ⟨rfl, hb2⟩
  have hB2 : PrB w2 P p kp v2 v3 := Box.later HB1.out hb2
  have HF : Hid (PO W P p kp base (a.L.length + 1) 524288 _) := Lib.hid (po_none hB2 hP (HW1.out.trans (hb2.mono HW1.out.size)))
  clear y0 y1 y2 y3 yl c2 hb2
  obtain ⟨y0, y1, y2, y3, f2, f3, yl⟩ := prb_cells hB2
  clear hB2
  go_wp2_with fail
  go_ret
  exact ⟨rfl, HF.out⟩
end Go.Proofs.YtjnphajkoopkgaaGreatDoor
namespace Go.Proofs.YtjnphajkoopkgaaGreatDoor
open Go.RowKit
set_option linter.unusedVariables false
structure OT where
 do_ : Int
 b : BN
 R : List RX
 A : Option Addr
 c : Nat
 n : Int
 m : Int
 ad : Option Addr
 kc : Nat
 keep : List Int
 tx : ByteArray
def otC (x : OT) : Array Value := #[.int .i64 x.do_, .int .i64 x.b.base, .int .i64 x.b.span, .int .i64 x.b.prod, .int .i64 x.b.epoch, .int .i64 x.b.seq, .slice x.A x.R.length x.c, .int .i64 x.n, .int .i64 x.m, .slice x.ad x.keep.length x.kc, .string x.tx]
structure OTk (W : World) (x : OT) : Prop where
 rin : RsIn W x.A x.R
 len : x.R.length ≤ 140737488351232
 tx : x.tx.size ≤ 140737488351232
 n : x.n ≤ 9223372036854775807
 klen : x.keep.length ≤ 9223372036854775807
 keep : Dk.KeepIn W (fun k => W.heap.size ≤ k) x.ad x.kc x.keep
structure StS (W : World) (P p kp q kq g : Nat) (base : Int) (a : Dk.Ab) (N : List BR) (a2 : Dk.Ab) (N2 : List BR) (cs : Array Value) (w : World) : Prop where
 box : PrB w P p kp (sp q) (sp kq)
 op : Box w g 47 cs
 sq : SQ W p q segN base a N w
 rq : RQ W kp kq segN base a2 N2 w
section
variable {W w w' : World} {P p kp q kq g : Nat} {base : Int} {a a2 a' : Dk.Ab} {N N2 N' : List BR} {cs : Array Value}
theorem StS.later (h : StS W P p kp q kq g base a N a2 N2 cs w) (hb : Below w.heap.size w w') : StS W P p kp q kq g base a N a2 N2 cs w' := ⟨Box.later h.box hb, h.op.later hb, h.sq.later hb, h.rq.later hb⟩
theorem StS.seg (h : StS W P p kp q kq g base a N a2 N2 cs w) (hs : SQ W p q segN base a' N' w') (ho : Off (SegK w) w w') : StS W P p kp q kq g base a' N' a2 N2 cs w' :=
 ⟨prb_seg h.box ho, h.op.off ho (fun hk => seg_apart hk (.box h.op (List.mem_singleton.2 rfl) : TyB [47] w g) (by decide) (by decide)), hs, h.rq.seg ho hs.bel⟩
theorem StS.doc (h : StS W P p kp q kq g base a N a2 N2 cs w) (hr : RQ W kp kq segN base a' N' w') (ho : Off (DocK W w) w w') : StS W P p kp q kq g base a N a' N' cs w' :=
 ⟨prb_doc h.box ho, h.op.off ho (fun hk => hk.2.apart (.box h.op (List.mem_singleton.2 rfl) : TyB [47] w g) (by decide)), h.sq.doc ho, hr⟩
theorem StS.cells (h : StS W P p kp q kq g base a N a2 N2 cs w) : w.cell? ⟨P, 2, none⟩ = some (.pointer (some ⟨q, 0, none⟩)) ∧ w.cell? ⟨P, 3, none⟩ = some (.pointer (some ⟨kq, 0, none⟩)) ∧ P < w.heap.size := by
 obtain ⟨y0, y1, y2, y3, _, _, yl⟩ := prb_cells h.box
 exact ⟨y2, y3, yl⟩
theorem StS.disks (h : StS W P p kp q kq g base a N a2 N2 cs w) : w.cell? ⟨P, 0, none⟩ = some (.pointer (some ⟨p, 0, none⟩)) ∧ w.cell? ⟨P, 1, none⟩ = some (.pointer (some ⟨kp, 0, none⟩)) ∧ P < w.heap.size := by
 obtain ⟨y0, y1, y2, y3, _, _, yl⟩ := prb_cells h.box
 exact ⟨y0, y1, yl⟩
theorem StS.po (h : StS W P p kp q kq g base a N a N cs w) {la ln : Nat} (h1 : a.L.length ≤ la) (h2 : N.length ≤ ln) : PO W P p kp base la ln w := .inl ⟨q, kq, a, N, h.box, h.sq, h.rq, h1, h2⟩
end
theorem PO.mono {W w : World} {P p kp la ln la2 ln2 : Nat} {base : Int} (h : PO W P p kp base la ln w) (h1 : la ≤ la2) (h2 : ln ≤ ln2) : PO W P p kp base la2 ln2 w := by
 rcases h with ⟨q, kq, a, N, g1, g2, g3, g4, g5⟩ | h
 ·
  exact .inl ⟨q, kq, a, N, g1, g2, g3, Nat.le_trans g4 h1, Nat.le_trans g5 h2⟩
 ·
  exact .inr h
theorem sts_new {W w : World} {P p kp q kq : Nat} {base : Int} {a : Dk.Ab} {N : List BR} (cs : Array Value) (hB : PrB w P p kp (sp q) (sp kq)) (h1 : SQ W p q segN base a N w) (h2 : RQ W kp kq segN base a N w) : StS W P p kp q kq w.heap.size base a N a N cs (w.alloc (.cells cs 47)) := by
 have hA : Below w.heap.size w (w.alloc (.cells cs 47)) := (Below.refl _ _).alloc (Nat.le_refl _) _
 exact ⟨Box.later hB hA, Box.new w _ _, h1.later hA, h2.later hA⟩
def GotStep (W : World) (P p kp : Nat) (base : Int) (k : Nat) (e : Ending) (w' : World) : Prop := e = .returned (.bool true) ∧ PO W P p kp base (2 * k + 3) (524289 + k) w'
set_option maxHeartbeats 8000000 in
set_option maxRecDepth 100000 in
theorem step10_1 (W w : World) (P p kp q kq : Nat) (base every : Int) (a : Dk.Ab) (N : List BR) (o : OT) (k : Nat) (hB : PrB w P p kp (sp q) (sp kq)) (h1 : SQ W p q segN base a N w) (h2 : RQ W kp kq segN base a N w) (hk : k ≤ 30) (hla : a.L.length ≤ 2 * k + 1) (hln : N.length ≤ 524288 + k) (hd : o.do_ = 1) :
  Calls Tryz.prog 12 #[.pointer (some ⟨P, 0, none⟩), .agg (otC o), .int .i64 base, .int .i64 every] w (GotStep W P p kp base k) := by
 obtain ⟨d, b, R, A, c, n, m, ad, kc, keep, tx⟩ := o
 dsimp only at hd
 subst hd
 have ha := Dk.Kd.Is.ok h1.at_.1
 have hS := sts_new (otC ⟨1, b, R, A, c, n, m, ad, kc, keep, tx⟩) hB h1 h2
 have z0 := (hS.op.cell 0).trans (show _ = some (Value.int .i64 1) from rfl)
 have hS1 := hS.later (Below.refl _ _).drew
 have hs := hS1.cells
 have c1 := sq_sync hS1.sq
 have cr := fun v (hr : RQ W kp kq segN base a N v) => rq_sync hr ha (by omega)
 have HS1 := Lib.hid hS1
 have HLN := Lib.hid (sync_len10 (a := a) segN.data.toList)
 clear hS hS1 h1 h2 hB ha
 unfold otC sp at *
 dsimp only at *
 generalize gsyE a segN = sv at *
 go_enter Tryz.func12, Tryz.ntmps12
 go_upto_region 8 with fail
 go_region_held3 (fun v => v.cell? ⟨P, 2, none⟩ = some (.pointer (some ⟨q, 0, none⟩)) ∧ v.cell? ⟨P, 3, none⟩ = some (.pointer (some ⟨kq, 0, none⟩)) ∧ P < v.heap.size) (first | exact hs | assumption)
  (first | ((with_reducible refine c1.mono ?_); rintro e w2 ⟨rfl, hs2, ho2⟩; have h2 := HS1.out.seg hs2 ho2; have hc2 := h2.cells) | ((with_reducible refine (cr _ h2.rq).mono ?_); rintro e w3 ⟨rfl, hr3, ho3⟩; have h3 := h2.doc hr3 ho3; have hc3 := h3.cells))
 all_goals
  have HF : Hid (PO W P p kp base (2 * k + 3) (524289 + k) w3) := Lib.hid (h3.po (by have := HLN.out; omega) (by omega))
  clear hs c1 cr h2 hc2 h3 hc3 hs2 ho2 hr3 ho3
  go_wp2_with fail
  go_ret
  exact ⟨by simp, HF.out⟩
end Go.Proofs.YtjnphajkoopkgaaGreatDoor
namespace Go.Proofs.YtjnphajkoopkgaaGreatDoor
open Go.RowKit
set_option linter.unusedVariables false
set_option maxHeartbeats 8000000 in
set_option maxRecDepth 100000 in
theorem step10_2 (W w : World) (P p kp q kq : Nat) (base every : Int) (a : Dk.Ab) (N : List BR) (o : OT) (k : Nat) (hB : PrB w P p kp (sp q) (sp kq)) (h1 : SQ W p q segN base a N w) (h2 : RQ W kp kq segN base a N w) (hk : k ≤ 30) (hla : a.L.length ≤ 2 * k + 1) (hln : N.length ≤ 524288 + k) (hd : o.do_ = 2) (hn : o.n ≤ 9223372036854775807) :
  Calls Tryz.prog 12 #[.pointer (some ⟨P, 0, none⟩), .agg (otC o), .int .i64 base, .int .i64 every] w (GotStep W P p kp base k) := by
 obtain ⟨d, b, R, A, c, n, m, ad, kc, keep, tx⟩ := o
 dsimp only at hd hn
 subst hd
 have hS := sts_new (otC ⟨2, b, R, A, c, n, m, ad, kc, keep, tx⟩) hB h1 h2
 have z0 := (hS.op.cell 0).trans (show _ = some (Value.int .i64 2) from rfl)
 have z7 := (hS.op.cell 7).trans (show _ = some (Value.int .i64 n) from rfl)
 have zl := hS.op.lt
 have hS1 := hS.later (Below.refl _ _).drew
 have hs := hS1.disks
 have hz := And.intro hs (And.intro ((hS1.op.cell 7).trans (show _ = some (Value.int .i64 n) from rfl)) hS1.op.lt)
 have HS1 := Lib.hid hS1
 clear hS h1 h2 hB hs
 by_cases hlo : n < -1
 ·
  have cf := Dk.fuse_low p (w.alloc (.cells (otC ⟨2, b, R, A, c, n, m, ad, kc, keep, tx⟩) 47)).drew n hlo
  have hlo' : ¬ (-1 : Int) ≤ n := by omega
  clear hS1
  unfold otC Dk.dp at *
  dsimp only at *
  go_enter Tryz.func12, Tryz.ntmps12
  go_upto_region 10 with fail
  go_region_held3 (fun v => (v.cell? ⟨P, 0, none⟩ = some (.pointer (some ⟨p, 0, none⟩)) ∧ v.cell? ⟨P, 1, none⟩ = some (.pointer (some ⟨kp, 0, none⟩)) ∧ P < v.heap.size) ∧ v.cell? ⟨w.heap.size, 7, none⟩ = some (.int .i64 n) ∧ w.heap.size < v.heap.size) (first | exact hz | assumption)
   (first | ((with_reducible refine cf.mono ?_); rintro e w2 ⟨rfl, hw2⟩; have hw3 := hw2.symm; subst hw3))
  all_goals
   have HF : Hid (PO W P p kp base (2 * k + 3) (524289 + k) _) := Lib.hid (HS1.out.po (by omega) (by omega))
   clear cf
   go_wp2_with fail
   go_ret
   exact ⟨by simp; omega, HF.out⟩
 ·
  have hlo' : (-1 : Int) ≤ n := by omega
  have cf := sq_fuse hS1.sq n hlo' hn
  clear hS1
  unfold otC Dk.dp at *
  dsimp only at *
  go_enter Tryz.func12, Tryz.ntmps12
  go_upto_region 10 with fail
  go_region_held3 (fun v => (v.cell? ⟨P, 0, none⟩ = some (.pointer (some ⟨p, 0, none⟩)) ∧ v.cell? ⟨P, 1, none⟩ = some (.pointer (some ⟨kp, 0, none⟩)) ∧ P < v.heap.size) ∧ v.cell? ⟨w.heap.size, 7, none⟩ = some (.int .i64 n) ∧ w.heap.size < v.heap.size) (first | exact hz | assumption)
   (first | ((with_reducible refine cf.mono ?_); rintro e w2 ⟨rfl, hs2, ho2⟩; have h2 := HS1.out.seg hs2 ho2; have hc2 := And.intro h2.disks (And.intro ((h2.op.cell 7).trans (show _ = some (Value.int .i64 n) from rfl)) h2.op.lt)))
  all_goals
   obtain ⟨f2, ⟨u, x2⟩, hkl, hr3, ho3⟩ := rq_fuse (h2.rq.later (Below.refl _ _).drew) n hlo'
   have h3 := (h2.later (Below.refl _ _).drew).doc hr3 ho3
   have HF : Hid (PO W P p kp base (2 * k + 3) (524289 + k) _) := Lib.hid (h3.po (show a.L.length ≤ 2 * k + 3 by omega) (by omega))
   have w0 := (h3.op.cell 7).trans (show _ = some (Value.int .i64 n) from rfl)
   have w1 := h3.op.lt
   obtain ⟨⟨g0, g1, gl⟩, g7, gl7⟩ := hc2
   clear cf hz h2 hs2 ho2 hr3 ho3 h3 z0 z7 zl
   go_wp2_with fail
   go_region
   all_goals
    go_wp2_with fail
    go_ret
    exact ⟨by simp, HF.out⟩
theorem at_bel {W w : World} {p : Nat} {a : Dk.Ab} (h : Dk.At W p a w) : Below W.heap.size W w := h.2
structure D2 (W : World) (P p kp g : Nat) (v2 v3 : Value) (a a2 : Dk.Ab) (cs : Array Value) (w : World) : Prop where
 box : PrB w P p kp v2 v3
 op : Box w g 47 cs
 at_ : Dk.At W p a w
 kd : Dk.Kd.KIs w kp a2 (KS W w)
section
variable {W w w' : World} {P p kp g : Nat} {v2 v3 : Value} {a a2 a' : Dk.Ab} {cs : Array Value}
theorem D2.prog (h : D2 W P p kp g v2 v3 a a2 cs w) (ha : Dk.At W p a' w') (ho : Off (AtS W w) w w') : D2 W P p kp g v2 v3 a' a2 cs w' :=
 ⟨prb_ats h.box ho, h.op.off ho (fun hk => hk.2.apart (.box h.op (List.mem_singleton.2 rfl) : TyB [47] w g) (by decide)), ha, kis_off h.kd ho (fun k hk ht => hk.2.apart ht (by decide))⟩
theorem D2.doc (h : D2 W P p kp g v2 v3 a a2 cs w) (hk : Dk.Kd.KIs w' kp a' (KS W w')) (ho : Off (KS W w) w w') : D2 W P p kp g v2 v3 a a' cs w' :=
 ⟨prb_ks h.box ho, h.op.off ho (fun hk => hk.2.apart (.box h.op (List.mem_singleton.2 rfl) : TyB [47] w g) (by decide)), at_off h.at_ ho (fun k hk _ hd => hd.apart hk.2 (by decide)) (fun k hk => hk.1), hk⟩
theorem D2.disks (h : D2 W P p kp g v2 v3 a a2 cs w) : w.cell? ⟨P, 0, none⟩ = some (.pointer (some ⟨p, 0, none⟩)) ∧ w.cell? ⟨P, 1, none⟩ = some (.pointer (some ⟨kp, 0, none⟩)) ∧ P < w.heap.size := by
 obtain ⟨y0, y1, y2, y3, _, _, yl⟩ := prb_cells h.box
 exact ⟨y0, y1, yl⟩
end
theorem StS.d2 {W w : World} {P p kp q kq g : Nat} {base : Int} {a a2 : Dk.Ab} {N N2 : List BR} {cs : Array Value} (h : StS W P p kp q kq g base a N a2 N2 cs w) : D2 W P p kp g (sp q) (sp kq) a a2 cs w := ⟨h.box, h.op, h.sq.at_, h.rq.kd⟩
theorem keep10 {W w : World} {S : Nat → Prop} {ad : Option Addr} {c : Nat} {keep : List Int} (h : Dk.KeepIn W (fun k => W.heap.size ≤ k) ad c keep) (hb : Below W.heap.size W w) (hS : ∀ k, S k → W.heap.size ≤ k) : Dk.KeepIn w S ad c keep := by
 have h2 := h.off (Off.of_below (fun _ => False) hb) (fun _ _ x => x.elim)
 refine ⟨h2.1, fun hp => ?_⟩
 obtain ⟨b, off, q1, q2, q3, q4⟩ := h2.2 hp
 exact ⟨b, off, q1, q2, fun hs => q3 (hS b hs), q4⟩
set_option maxHeartbeats 8000000 in
set_option maxRecDepth 100000 in
theorem step10_3 (W w : World) (P p kp q kq : Nat) (base every : Int) (a : Dk.Ab) (N : List BR) (o : OT) (k : Nat) (hB : PrB w P p kp (sp q) (sp kq)) (hP : W.heap.size ≤ P) (h1 : SQ W p q segN base a N w) (h2 : RQ W kp kq segN base a N w) (hk : k ≤ 30) (hla : a.L.length ≤ 2 * k + 1) (hT : Tab W) (hok : OpOk segN base every) (hd : o.do_ = 3) (hi : OTk W o) :
  Calls Tryz.prog 12 #[.pointer (some ⟨P, 0, none⟩), .agg (otC o), .int .i64 base, .int .i64 every] w (GotStep W P p kp base k) := by
 obtain ⟨i1, i2, i3, i4, i5, i6⟩ := hi
 obtain ⟨d, b, R, A, c, n, m, ad, kc, keep, tx⟩ := o
 dsimp only at hd i1 i2 i3 i4 i5 i6
 subst hd
 have ha := Dk.Kd.Is.ok h1.at_.1
 have hS := (sts_new (otC ⟨3, b, R, A, c, n, m, ad, kc, keep, tx⟩) hB h1 h2)
 have z0 := (hS.op.cell 0).trans (show _ = some (Value.int .i64 3) from rfl)
 have hS1 := (hS.later (Below.refl _ _).drew).d2
 have hz := And.intro hS1.disks (And.intro ((hS1.op.cell 9).trans (show _ = some (Value.slice ad keep.length kc) from rfl)) hS1.op.lt)
 have zc := (hS.op.cell 9).trans (show _ = some (Value.slice ad keep.length kc) from rfl)

 have c1 := (Dk.crash_do p a (AtS W _) _ (at_kind hS1.at_) (by omega) ad kc keep i5 (keep10 i6 hS1.at_.2 (fun k hk => hk.1))).mono (fun _ _ hd => at_out hS1.at_ hd)
 have cr := fun v (hv : Below W.heap.size W v) (hr : Dk.Kd.KIs v kp a (KS W v)) => (Dk.Kd.kcrash_c kp a (KS W v) v hr ha (by omega) ad kc keep i5 (keep10 i6 hv (fun k hk => hk.1))).mono (fun _ _ hd => kdoes_out hv.size hd)
 have co := fun v (g : Nat) (cs : Array Value) (hv : D2 W P p kp g (sp q) (sp kq) (Dk.crashA a keep) (Dk.crashA a keep) cs v) (hl : (Dk.crashA a keep).L.length ≤ 1000) => opens_c W v P p kp (sp q) (sp kq) base every (Dk.crashA a keep) hv.box hP hv.at_ hv.kd hT hok hl
 have HS1 := Lib.hid hS1
 have HLN : Hid ((Dk.crashA a keep).L.length ≤ a.L.length + 1) := Lib.hid (crash_len10 keep)
 clear hS hS1 h1 h2 hB ha i1 i2 i3 i4 i5 i6 hT hok
 unfold otC Dk.dp sp at *
 dsimp only at *
 generalize ((Dk.tearL keep 0 a.L).2 : Int) = tv at *
 generalize (Dk.crashA a keep) = na at *
 go_enter Tryz.func12, Tryz.ntmps12
 go_upto_region 15 with fail
 go_region_held3 (fun v => (v.cell? ⟨P, 0, none⟩ = some (.pointer (some ⟨p, 0, none⟩)) ∧ v.cell? ⟨P, 1, none⟩ = some (.pointer (some ⟨kp, 0, none⟩)) ∧ P < v.heap.size) ∧ v.cell? ⟨w.heap.size, 9, none⟩ = some (Value.slice ad keep.length kc) ∧ w.heap.size < v.heap.size) (first | exact hz | assumption)
  (first | ((with_reducible refine c1.mono ?_); rintro e w2 ⟨rfl, hs2, ho2⟩; have h2 := HS1.out.prog hs2 ho2; have hc2 := And.intro h2.disks (And.intro ((h2.op.cell 9).trans (show _ = some (Value.slice ad keep.length kc) from rfl)) h2.op.lt)) | ((with_reducible refine (cr _ (at_bel hs2) h2.kd).mono ?_); rintro e w3 ⟨rfl, hr3, ho3⟩; have h3 := h2.doc hr3 ho3; have hc3 := And.intro h3.disks (And.intro ((h3.op.cell 9).trans (show _ = some (Value.slice ad keep.length kc) from rfl)) h3.op.lt)))
 all_goals
  have co3 := co _ _ _ h3 (by have := HLN.out; omega)
  have hne : (tv != tv) = false := by simp
  clear c1 cr co h2 hc2 h3 hs2 ho2 hr3 ho3 hz
  obtain ⟨⟨g0, g1, gl⟩, g7, gl7⟩ := hc3
  go_wp2_with fail
  (with_reducible refine co3.mono ?_)
  rintro e w4 ⟨rfl, hpo⟩
  have HF := Lib.hid (hpo.mono (la2 := 2 * k + 3) (ln2 := 524289 + k) (by have := HLN.out; omega) (by omega))
  clear co3 hpo g0 g1 gl g7 gl7
  go_wp2_with fail
  go_ret
  exact ⟨rfl, HF.out⟩
set_option maxHeartbeats 8000000 in
set_option maxRecDepth 100000 in
theorem step10_4 (W w : World) (P p kp q kq : Nat) (base every : Int) (a : Dk.Ab) (N : List BR) (o : OT) (k : Nat) (hB : PrB w P p kp (sp q) (sp kq)) (hP : W.heap.size ≤ P) (h1 : SQ W p q segN base a N w) (h2 : RQ W kp kq segN base a N w) (hk : k ≤ 30) (hla : a.L.length ≤ 2 * k + 1) (hT : Tab W) (hok : OpOk segN base every) (hd : o.do_ = 4) (hi : OTk W o) :
  Calls Tryz.prog 12 #[.pointer (some ⟨P, 0, none⟩), .agg (otC o), .int .i64 base, .int .i64 every] w (GotStep W P p kp base k) := by
 obtain ⟨i1, i2, i3, i4, i5, i6⟩ := hi
 obtain ⟨d, b, R, A, c, n, m, ad, kc, keep, tx⟩ := o
 dsimp only at hd i1 i2 i3 i4 i5 i6
 subst hd
 have ha := Dk.Kd.Is.ok h1.at_.1
 have hS := (sts_new (otC ⟨4, b, R, A, c, n, m, ad, kc, keep, tx⟩) hB h1 h2)
 have z0 := (hS.op.cell 0).trans (show _ = some (Value.int .i64 4) from rfl)
 have hS1 := (hS.later (Below.refl _ _).drew).d2
 have hz := And.intro hS1.disks (And.intro ((hS1.op.cell 10).trans (show _ = some (Value.string tx) from rfl)) hS1.op.lt)
 have zc := (hS.op.cell 10).trans (show _ = some (Value.string tx) from rfl)

 have c1 := (Dk.app_do p a (AtS W _) _ segN tx (by decide) (by omega) (at_kind hS1.at_) (by omega)).mono (fun _ _ hd => at_out hS1.at_ hd)
 have cr := fun v (hv : Below W.heap.size W v) (hr : Dk.Kd.KIs v kp a (KS W v)) => (Dk.Kd.kapp_c kp a (KS W v) segN tx v hr ha (by omega) (by decide) i3).mono (fun _ _ hd => kdoes_out hv.size hd)
 have co := fun v (g : Nat) (cs : Array Value) (hv : D2 W P p kp g (sp q) (sp kq) (Dk.appA a segN tx) (Dk.appA a segN tx) cs v) (hl : (Dk.appA a segN tx).L.length ≤ 1000) => opens_c W v P p kp (sp q) (sp kq) base every (Dk.appA a segN tx) hv.box hP hv.at_ hv.kd hT hok hl
 have HS1 := Lib.hid hS1
 have HLN : Hid ((Dk.appA a segN tx).L.length ≤ a.L.length + 1) := Lib.hid (app_len10 segN tx)
 clear hS hS1 h1 h2 hB ha i1 i2 i3 i4 i5 i6 hT hok
 unfold otC Dk.dp sp segN at *
 dsimp only at *
 generalize Dk.appE a ⟨#[115, 101, 103]⟩ tx = tv at *
 generalize (Dk.appA a ⟨#[115, 101, 103]⟩ tx) = na at *
 go_enter Tryz.func12, Tryz.ntmps12
 go_upto_region 19 with fail
 go_region_held3 (fun v => (v.cell? ⟨P, 0, none⟩ = some (.pointer (some ⟨p, 0, none⟩)) ∧ v.cell? ⟨P, 1, none⟩ = some (.pointer (some ⟨kp, 0, none⟩)) ∧ P < v.heap.size) ∧ v.cell? ⟨w.heap.size, 10, none⟩ = some (Value.string tx) ∧ w.heap.size < v.heap.size) (first | exact hz | assumption)
  (first | ((with_reducible refine c1.mono ?_); rintro e w2 ⟨rfl, hs2, ho2⟩; have h2 := HS1.out.prog hs2 ho2; have hc2 := And.intro h2.disks (And.intro ((h2.op.cell 10).trans (show _ = some (Value.string tx) from rfl)) h2.op.lt)) | ((with_reducible refine (cr _ (at_bel hs2) h2.kd).mono ?_); rintro e w3 ⟨rfl, hr3, ho3⟩; have h3 := h2.doc hr3 ho3; have hc3 := And.intro h3.disks (And.intro ((h3.op.cell 10).trans (show _ = some (Value.string tx) from rfl)) h3.op.lt)))
 all_goals
  have co3 := co _ _ _ h3 (by have := HLN.out; omega)
  have hne : (tv != tv) = false := by simp
  clear c1 cr co h2 hc2 h3 hs2 ho2 hr3 ho3 hz
  obtain ⟨⟨g0, g1, gl⟩, g7, gl7⟩ := hc3
  go_wp2_with fail
  (with_reducible refine co3.mono ?_)
  rintro e w4 ⟨rfl, hpo⟩
  have HF := Lib.hid (hpo.mono (la2 := 2 * k + 3) (ln2 := 524289 + k) (by have := HLN.out; omega) (by omega))
  clear co3 hpo g0 g1 gl g7 gl7
  go_wp2_with fail
  go_ret
  exact ⟨rfl, HF.out⟩
end Go.Proofs.YtjnphajkoopkgaaGreatDoor
