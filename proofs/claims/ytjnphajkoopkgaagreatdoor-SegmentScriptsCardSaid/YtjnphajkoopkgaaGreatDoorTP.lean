/- Merged texts. What each proves is told at its head. -/
import Derived.Test.YtjnphajkoopkgaaGreatDoorTO
import Derived.Test.YtjnphajkoopkgaaGreatDoorUW
import Derived.Test.YtjnphajkoopkgaaGreatDoorUI
import Derived.Test.YtjnphajkoopkgaaGreatDoorTN
import Derived.OpenShut
import Derived.ProofKit
import Derived.SizedLaws
import Derived.Deep.Slices
import Derived.Deep.Fields
import Derived.KernelRfl
namespace Go.Proofs.YtjnphajkoopkgaaGreatDoor
open Go.RowKit
set_option linter.unusedVariables false
theorem s9_cells {W w : World} {P p kp q kq g : Nat} {base : Int} {a a2 : Dk.Ab} {N N2 : List BR} {x : OT} (h : StS W P p kp q kq g base a N a2 N2 (otC x) w) :
  (w.cell? ⟨P, 2, none⟩ = some (.pointer (some ⟨q, 0, none⟩)) ∧ w.cell? ⟨P, 3, none⟩ = some (.pointer (some ⟨kq, 0, none⟩))) ∧ (P < w.heap.size ∧ g < w.heap.size) ∧ w.cell? ⟨g, 7, none⟩ = some (.int .i64 x.n) ∧ w.cell? ⟨g, 8, none⟩ = some (.int .i64 x.m) := by
 obtain ⟨y2, y3, yl⟩ := h.cells
 exact ⟨⟨y2, y3⟩, ⟨yl, h.op.lt⟩, h.op.cell 7, h.op.cell 8⟩
set_option maxHeartbeats 16000000 in
set_option maxRecDepth 100000 in
theorem step10_9 (W w : World) (P p kp q kq : Nat) (base every : Int) (a : Dk.Ab) (N : List BR) (o : OT) (k : Nat) (hB : PrB w P p kp (sp q) (sp kq)) (h1 : SQ W p q segN base a N w) (h2 : RQ W kp kq segN base a N w) (hk : k ≤ 30) (hla : a.L.length ≤ 2 * k + 1) (hln : N.length ≤ 524288 + k) (hd0 : (o.do_ == 0) = false) (hd1 : (o.do_ == 1) = false) (hd2 : (o.do_ == 2) = false) (hd3 : (o.do_ == 3) = false) (hd4 : (o.do_ == 4) = false) :
  Calls Tryz.prog 12 #[.pointer (some ⟨P, 0, none⟩), .agg (otC o), .int .i64 base, .int .i64 every] w (GotStep W P p kp base k) := by
 have hS := sts_new (otC o) hB h1 h2
 have HG := Lib.hid (sq_good h1).1
 have HRM := Lib.hid (fun q hq => (readS_mem (from_ := o.n) (most := o.m) (L := N) (n := 0) (has := false)).1 q hq)
 have HRL := Lib.hid ((readS_mem (from_ := o.n) (most := o.m) (L := N) (n := 0) (has := false)).2)
 have z0 := (hS.op.cell 0).trans (show _ = some (Value.int .i64 o.do_) from rfl)
 have zl := hS.op.lt
 have hSd := hS.later (Below.refl _ _).drew
 have hs := s9_cells hSd
 have c1 := sq_read hSd.sq (by omega) o.n o.m
 have HSd := Lib.hid hSd
 have cB := fun v (hv : StS W P p kp q kq w.heap.size base a N a N (otC o) v) => sq_aft hv.sq (by omega) o.n
 have cC := fun v (hv : StS W P p kp q kq w.heap.size base a N a N (otC o) v) => rq_aft hv.rq (by omega) o.n
 have cD := fun v (hv : StS W P p kp q kq w.heap.size base a N a N (otC o) v) => rq_read hv.rq (by omega) o.n o.m
 have hRN : readN o.n o.m N = readS o.n o.m 0 false N := rfl
 have HPO := Lib.hid (fun v (hv : StS W P p kp q kq w.heap.size base a N a N (otC o) v) => hv.po (la := 2 * k + 3) (ln := 524289 + k) (by omega) (by omega))
 have HCELL := Lib.hid (fun v (hv : StS W P p kp q kq w.heap.size base a N a N (otC o) v) => s9_cells hv)
 clear hS hSd h1 h2 hB
 unfold aftV at cB cC
 rw [hRN] at c1 cD
 clear hRN
 unfold sp at *
 generalize readS o.n o.m 0 false N = RN at *
 generalize (aftN o.n N).1 = ax at *
 generalize (aftN o.n N).2 = ah at *
 generalize otC o = cs at *
 generalize o.do_ = dd at *
 generalize o.n = nn at *
 generalize o.m = mm at *
 have hxx : (ax == ax) = true := by simp
 have haa : (ah == ah) = true := by simp
 go_enter Tryz.func12, Tryz.ntmps12
 go_upto_region 22 with fail
 go_region_held3 (fun v => (v.cell? ⟨P, 2, none⟩ = some (.pointer (some ⟨q, 0, none⟩)) ∧ v.cell? ⟨P, 3, none⟩ = some (.pointer (some ⟨kq, 0, none⟩))) ∧ (P < v.heap.size ∧ w.heap.size < v.heap.size) ∧ v.cell? ⟨w.heap.size, 7, none⟩ = some (.int .i64 nn) ∧ v.cell? ⟨w.heap.size, 8, none⟩ = some (.int .i64 mm)) (first | exact hs | assumption)
  (first | ((with_reducible refine c1.mono ?_); rintro e w2 ⟨M, MA, mc, hM, rfl, hbt, hb2⟩; have h2 := HSd.out.later hb2; have hc2 := HCELL.out _ h2))
 all_goals
  have HM := Lib.hid (And.intro hM hbt)
  have hs2 := HCELL.out _ (h2.later (Below.refl _ _).drew)
  have HS2 := Lib.hid (h2.later (Below.refl _ _).drew)
  have cB2 := cB _ (h2.later (Below.refl _ _).drew)
  clear hs hM hbt hb2 h2 hc2 c1 cB z0 zl
  go_upto_region 23 with fail
  go_region_held3 (fun v => (v.cell? ⟨P, 2, none⟩ = some (.pointer (some ⟨q, 0, none⟩)) ∧ v.cell? ⟨P, 3, none⟩ = some (.pointer (some ⟨kq, 0, none⟩))) ∧ (P < v.heap.size ∧ w.heap.size < v.heap.size) ∧ v.cell? ⟨w.heap.size, 7, none⟩ = some (.int .i64 nn) ∧ v.cell? ⟨w.heap.size, 8, none⟩ = some (.int .i64 mm)) (first | exact hs2 | assumption)
   (first | ((with_reducible refine cB2.mono ?_); rintro e w3 ⟨rfl, hb3⟩; have h3 := HS2.out.later hb3; have hc3 := HCELL.out _ h3))
  all_goals
   have HB3 : Hid (Below w2.heap.size w2 w3) := Lib.hid ((Below.refl _ _).drew.trans hb3)
   have hs3 := HCELL.out _ (h3.later (Below.refl _ _).drew)
   have HS3 := Lib.hid (h3.later (Below.refl _ _).drew)
   have cC3 := cC _ (h3.later (Below.refl _ _).drew)
   clear hs2 hb3 h3 hc3 cB2 cC
   go_upto_region 24 with fail
   go_region_held3 (fun v => (v.cell? ⟨P, 2, none⟩ = some (.pointer (some ⟨q, 0, none⟩)) ∧ v.cell? ⟨P, 3, none⟩ = some (.pointer (some ⟨kq, 0, none⟩))) ∧ (P < v.heap.size ∧ w.heap.size < v.heap.size) ∧ v.cell? ⟨w.heap.size, 7, none⟩ = some (.int .i64 nn) ∧ v.cell? ⟨w.heap.size, 8, none⟩ = some (.int .i64 mm)) (first | exact hs3 | assumption)
    (first | ((with_reducible refine cC3.mono ?_); rintro e w4 ⟨rfl, hb4⟩; have h4 := HS3.out.later hb4; have hc4 := HCELL.out _ h4))
   all_goals
    have HB4 : Hid (Below w2.heap.size w2 w4) := Lib.hid (HB3.out.trans (((Below.refl _ _).drew.trans hb4).mono HB3.out.size))
    have hs4 := HCELL.out _ (h4.later (Below.refl _ _).drew)
    have HS4 := Lib.hid (h4.later (Below.refl _ _).drew)
    have cD4 := cD _ (h4.later (Below.refl _ _).drew)
    have HGT := Lib.hid (good_told_in HM.out.1 (fun x hx => HG.out x (HRM.out x hx)))
    have HML : Hid (M.length ≤ 140737488351232) := Lib.hid (by have h1 := congrArg List.length HM.out.1; rw [List.length_map] at h1; have h2 := HRL.out; omega)
    have cE := fun v (O : List BX) (OA : Option Addr) (oc : Nat) (hO : O.map BX.told = RN) (hb : Below w2.heap.size w2 v) (hin : BsIn v OA O) => rsameAll5_c M O MA OA mc oc v ((HM.out.2.later hb).bsinOk HM.out.1 HGT.out.1) hin (HM.out.1.trans hO.symm) HML.out HGT.out.2
    clear hs3 hb4 h4 hc4 cC3 cD
    go_upto_region 25 with fail
    go_region_held3 (fun v => (v.cell? ⟨P, 2, none⟩ = some (.pointer (some ⟨q, 0, none⟩)) ∧ v.cell? ⟨P, 3, none⟩ = some (.pointer (some ⟨kq, 0, none⟩))) ∧ (P < v.heap.size ∧ w.heap.size < v.heap.size) ∧ v.cell? ⟨w.heap.size, 7, none⟩ = some (.int .i64 nn) ∧ v.cell? ⟨w.heap.size, 8, none⟩ = some (.int .i64 mm)) (first | exact hs4 | assumption)
     (first | ((with_reducible refine cD4.mono ?_); rintro e w5 ⟨O, OA, oc, hO, rfl, hin, hb5⟩; have h5 := HS4.out.later hb5; have hc5 := HCELL.out _ h5; have hb25 : Below w2.heap.size w2 w5 := HB4.out.trans (((Below.refl _ _).drew.trans hb5).mono HB4.out.size)) | ((with_reducible refine (cE _ O OA oc hO hb25 hin).mono ?_); rintro e w6 ⟨rfl, hb6⟩; have h6 := h5.later hb6; have hc6 := HCELL.out _ h6))
    all_goals
     have HF := Lib.hid (HPO.out _ h6)
     clear hs4 hb5 h5 hc5 hb25 hb6 h6 hc6 cD4 cE hO hin
     go_wp2_with fail
     go_ret
     exact ⟨by simp, HF.out⟩
end Go.Proofs.YtjnphajkoopkgaaGreatDoor
namespace Go.Proofs.YtjnphajkoopkgaaGreatDoor
open Go.RowKit Go.WideShapes Go.ChangeShapes Go.WideMaps Go.WideElems
section
variable {H : Type} {enc : TypeId × Value → H} {P : Program}
def IntRow (k : IntKind) (w : World) (a : Option Addr) (len cap : Nat) (z : List Int) : Prop :=
 z.length = len ∧ len ≤ cap ∧ cap ≤ maxLen ∧ (∀ n ∈ z, (Lit.int k n).wf = true) ∧
 (0 < len → ∃ b off, a = some ⟨b, off, none⟩ ∧ b < w.heap.size ∧ ∀ j, j < len → w.cell? ⟨b, off + j, none⟩ = some (.int k (z.getD j 0)))
theorem cell_block {w : World} {a : Addr} {v : Value} (h : w.cell? a = some v) : a.block < w.heap.size := by
 rcases Nat.lt_or_ge a.block w.heap.size with hlt | hge
 ·
  exact hlt
 ·
  simp [World.cell?, Array.getElem?_eq_none hge] at h
end
end Go.Proofs.YtjnphajkoopkgaaGreatDoor
namespace Go.Proofs.YtjnphajkoopkgaaGreatDoor
open Go.RowKit Go.WideShapes Go.ChangeShapes Go.Deep Go.WideMaps Go.WideElems
set_option linter.unusedVariables false
theorem wf_range10 {n : Int} (h : (Lit.int .i64 n).wf = true) : -9223372036854775808 ≤ n ∧ n ≤ 9223372036854775807 := by
 have h2 : IntKind.i64.min ≤ n ∧ n ≤ IntKind.i64.max := by simpa [Lit.wf] using h
 exact ⟨h2.1, h2.2⟩
theorem keep_of10 {w : World} {a : Option Addr} {c : Nat} {z : List Int} (h : IntRow .i64 w a z.length c z) : Dk.KeepIn w (fun k => w.heap.size ≤ k) a c z ∧ z.length ≤ 9223372036854775807 := by
 obtain ⟨_, h2, h3, h4, h5⟩ := h
 refine ⟨⟨fun n hn => wf_range10 (h4 n hn), fun hp => ?_⟩, by unfold maxLen at h3; omega⟩
 obtain ⟨b, off, q1, q2, q3⟩ := h5 hp
 exact ⟨b, off, q1, q2, by omega, q3⟩
def OsIn (w : World) (A : Option Addr) (l : List OT) : Prop :=
 0 < l.length → ∃ b off, A = some ⟨b, off, none⟩ ∧ b < w.heap.size ∧ ∀ j x, l[j]? = some x → (∀ i u, (otC x)[i]? = some u → w.cell? ⟨b, off + j * 11 + i, none⟩ = some u) ∧ OTk w x
structure RunR where
 base : Int
 every : Int
 room : Int
 A : Option Addr
 c : Nat
 l : List OT
structure RunK (w : World) (x : RunR) : Prop where
 ops : OsIn w x.A x.l
 room : -9223372036854775808 ≤ x.room ∧ x.room ≤ 9223372036854775807
def runC (x : RunR) : Array Value := #[.int .i64 x.base, .int .i64 x.every, .int .i64 x.room, .slice x.A x.l.length x.c]
section
variable {H : Type} {enc : TypeId × Value → H} {P : Program} {w : World} {base : Nat} {sp : Nat → Bool} {held : Bool}
theorem intRow_in {t e : TypeId} {k : IntKind} {n : Nat} {x : Value} {y : DataW H × List MemPlace} (ht : P.underlying t = some (.slice e)) (he : P.underlying e = some (.int k)) (hc : P.cellsOf e = 1)
  (h : DataW.trod enc P w base sp held n t [x] = some y) : ∃ a c z, x = .slice a (z : List Int).length c ∧ IntRow k w a z.length c z := by
 rcases open_ints ht he hc h with ⟨hcs, _⟩ | ⟨a, l, c, zs, hcs, _, hl, hm, hz, _, hcell, hwz⟩
 ·
  exact ⟨none, 0, [], by simpa using hcs, rfl, Nat.le_refl _, Nat.zero_le _, fun n hn => by simp at hn, fun hp => by simp at hp⟩
 ·
  have hx : x = .slice (some a) l c := by simpa using hcs
  have hlz : l ≤ zs.length := by rw [hz]; split <;> omega
  have hzl : (zs.take l).length = l := by rw [List.length_take]; omega
  refine ⟨some a, c, zs.take l, by rw [hzl]; exact hx, rfl, by omega, hm, fun n hn => hwz n (List.mem_of_mem_take hn), fun hp => ?_⟩
  rw [hzl] at hp
  obtain ⟨b, off, rfl, hat⟩ := ints_at hcell (by omega)
  refine ⟨b, off, rfl, cell_block (hat 0 (by omega)), fun j hj => ?_⟩
  rw [hzl] at hj
  rw [hat j (by omega)]
  simp [List.getD, hj]
end
section
variable {H : Type} {enc : TypeId × Value → H} {w : World} {base : Nat} {sp : Nat → Bool} {held : Bool}
set_option maxRecDepth 100000 in
theorem ot_of {n : Nat} {cs' : List Value} {d : DataW H} {p : List MemPlace} (hl : cs'.length = 11) (ht' : DataW.trod enc Tryz.prog w base sp held n 47 cs' = some (d, p)) (hwe : Weighs Tryz.prog 47 d) :
  ∃ x : OT, cs' = (otC x).toList ∧ OTk w x := by
 obtain ⟨xs, n2, _, hy, _, hyl, hff⟩ := DataW.trod_struct Tryz.underlying47 ht'
 simp only [Prod.mk.injEq] at hy
 rw [hy.1] at hwe
 obtain ⟨y0, u0⟩ : ∃ y, xs[0]? = some y := ⟨_, List.getElem?_eq_getElem (by rw [hyl]; decide)⟩
 obtain ⟨y1, u1⟩ : ∃ y, xs[1]? = some y := ⟨_, List.getElem?_eq_getElem (by rw [hyl]; decide)⟩
 obtain ⟨y2, u2⟩ : ∃ y, xs[2]? = some y := ⟨_, List.getElem?_eq_getElem (by rw [hyl]; decide)⟩
 obtain ⟨y3, u3⟩ : ∃ y, xs[3]? = some y := ⟨_, List.getElem?_eq_getElem (by rw [hyl]; decide)⟩
 obtain ⟨y4, u4⟩ : ∃ y, xs[4]? = some y := ⟨_, List.getElem?_eq_getElem (by rw [hyl]; decide)⟩
 obtain ⟨y5, u5⟩ : ∃ y, xs[5]? = some y := ⟨_, List.getElem?_eq_getElem (by rw [hyl]; decide)⟩
 have t0 := (hff 0 _ rfl).trans u0
 have t1 := (hff 1 _ rfl).trans u1
 have t2 := (hff 2 _ rfl).trans u2
 have t3 := (hff 3 _ rfl).trans u3
 have t4 := (hff 4 _ rfl).trans u4
 have t5 := (hff 5 _ rfl).trans u5
 have w1 := weighs_field Tryz.underlying47 hwe (j := 1) rfl (d := y1.1) (by simp [u1])
 have w5 := weighs_field Tryz.underlying47 hwe (j := 5) rfl (d := y5.1) (by simp [u5])
 match cs', hl, t0, t1, t2, t3, t4, t5 with
 | [c0, c1, c2, c3, c4, c5, c6, c7, c8, c9, c10], _, t0, t1, t2, t3, t4, t5 =>
  obtain ⟨n0, e0, _, _⟩ := DataW.trod_int (t := 3) Tryz.underlying3 (show DataW.trod enc Tryz.prog w base sp held n2 3 [c0] = some y0 from t0)
  obtain ⟨n3, gat⟩ := open_cells (cs' := [c1, c2, c3, c4, c5, c6]) Tryz.underlying44 (by kernel_rfl) rfl (show DataW.trod enc Tryz.prog w base sp held n2 44 [c1, c2, c3, c4, c5, c6] = some y1 from t1) w1
  obtain ⟨x0, b0, k0, m0, _⟩ := gat 0 _ rfl
  obtain ⟨x1, b1, k1, m1, _⟩ := gat 1 _ rfl
  obtain ⟨x2, b2, k2, m2, _⟩ := gat 2 _ rfl
  obtain ⟨x3, b3, k3, m3, _⟩ := gat 3 _ rfl
  obtain ⟨x4, b4, k4, m4, _⟩ := gat 4 _ rfl
  obtain ⟨x5, b5, k5, m5, o5⟩ := gat 5 _ rfl
  obtain ⟨r0, f0, _, _⟩ := DataW.trod_int Tryz.underlying3 m0
  obtain ⟨r1, f1, _, _⟩ := DataW.trod_int Tryz.underlying3 m1
  obtain ⟨r2, f2, _, _⟩ := DataW.trod_int Tryz.underlying3 m2
  obtain ⟨r3, f3, _, _⟩ := DataW.trod_int Tryz.underlying3 m3
  obtain ⟨r4, f4, _, _⟩ := DataW.trod_int Tryz.underlying3 m4
  obtain ⟨A, c, L, f5, hin, hl⟩ := open_recs m5 o5
  obtain ⟨n7, e7, _, g7⟩ := DataW.trod_int (t := 3) Tryz.underlying3 (show DataW.trod enc Tryz.prog w base sp held n2 3 [c7] = some y2 from t2)
  obtain ⟨n8, e8, _, _⟩ := DataW.trod_int (t := 3) Tryz.underlying3 (show DataW.trod enc Tryz.prog w base sp held n2 3 [c8] = some y3 from t3)
  obtain ⟨KA, kc, z, e9, hkin⟩ := intRow_in Tryz.underlying45 Tryz.underlying3 (by kernel_rfl) (show DataW.trod enc Tryz.prog w base sp held n2 45 [c9] = some y4 from t4)
  obtain ⟨g, e10, e10', _⟩ := DataW.trod_string (t := 9) Tryz.underlying9 (show DataW.trod enc Tryz.prog w base sp held n2 9 [c10] = some y5 from t5)
  rw [e10'] at w5
  have s5 := weighs_str w5
  obtain ⟨kk1, kk2⟩ := keep_of10 hkin
  simp at e0 e7 e8 e9 e10 f0 f1 f2 f3 f4 k0 k1 k2 k3 k4 k5
  refine ⟨⟨n0, ⟨r0, r1, r2, r3, r4⟩, L, A, c, n7, n8, KA, kc, z, g⟩, ?_, ⟨hin, hl, s5, (wf_range10 g7).2, kk2, kk1⟩⟩
  unfold otC
  rw [e0, k0, f0, k1, f1, k2, f2, k3, f3, k4, f4, k5, f5, e7, e8, e9, e10]
set_option maxRecDepth 100000 in
theorem open_os {n : Nat} {v : Value} {d : DataW H} {p : List MemPlace} (hf : DataW.trod enc Tryz.prog w base sp held n 22 [v] = some (d, p)) (hw : Weighs Tryz.prog 22 d) :
  ∃ A c l, v = .slice A (l : List OT).length c ∧ OsIn w A l := by
 rcases open_slice Tryz.underlying22 hf with ⟨hcs, _⟩ | ⟨a, len, cap, m, n', D, Pl, hcs, _, hlc, _, hm, hx, hi⟩
 ·
  exact ⟨none, 0, [], by simpa using hcs, fun hp => by simp at hp⟩
 ·
  have hlm : len ≤ m := by rw [hm]; split <;> omega
  have hD : d = .slice ((List.range len).map D) ((List.range (m - len)).map fun j => D (len + j)) := by
   have := congrArg Prod.fst hx
   exact this
  rw [hD] at hw
  have key : ∀ i, i < len → ∃ o : OT, (∀ j u, (otC o)[j]? = some u → w.cell? ((a.add (i * 11)).add j) = some u) ∧ OTk w o := by
   intro i hil
   obtain ⟨cs', hc, ht'⟩ := hi i (by omega)
   rw [show Tryz.prog.cellsOf 47 = 11 by kernel_rfl] at hc
   obtain ⟨_, hcl2, hat⟩ := World.cells?_some hc
   have hwe : Weighs Tryz.prog 47 (D i) := weighs_elem Tryz.underlying22 hw (i := i) (by simp [hil])
   obtain ⟨x, hx1, hx2⟩ := ot_of hcl2 ht' hwe
   refine ⟨x, fun j u hj => ?_, hx2⟩
   have hj11 : j < 11 := (Array.getElem?_eq_some_iff.1 hj).1
   rw [hat j hj11, hx1]
   simpa using hj
  obtain rfl : v = .slice (some a) len cap := by simpa using hcs
  have hex : ∃ F : Nat → OT, ∀ i, i < len → (∀ j u, (otC (F i))[j]? = some u → w.cell? ((a.add (i * 11)).add j) = some u) ∧ OTk w (F i) := by
   classical
   refine ⟨fun i => if h : i < len then Classical.choose (key i h) else ⟨0, ⟨0, 0, 0, 0, 0⟩, [], none, 0, 0, 0, none, 0, [], ⟨#[]⟩⟩, fun i hil => ?_⟩
   simp only [dif_pos hil]
   exact Classical.choose_spec (key i hil)
  obtain ⟨F, hF⟩ := hex
  refine ⟨some a, cap, (List.range len).map F, by simp, fun hp => ?_⟩
  have hp' : 0 < len := by simpa using hp
  obtain ⟨b, off, rfl, hb⟩ := addr_plain (w := w) (a := a) (v := .int .i64 (F 0).do_) (by
   have h0 := (hF 0 hp').1 0 _ rfl
   rw [Nat.zero_mul] at h0
   have e : ∀ a : Addr, a.add 0 = a := fun a => by unfold Addr.add; rfl
   rw [e, e] at h0
   rw [e]
   exact h0)
  refine ⟨b, off, rfl, hb, fun j o hj => ?_⟩
  obtain ⟨hj1, hj2⟩ := List.getElem?_eq_some_iff.1 hj
  have hj' : j < len := by simpa using hj1
  have : F j = o := by simpa using hj2
  subst this
  obtain ⟨h1, h2⟩ := hF j hj'
  rw [add_at] at h1
  refine ⟨fun i u hu => ?_, h2⟩
  have := h1 i u hu
  rwa [add_at] at this
set_option maxRecDepth 100000 in
theorem open_run {r : Reach} {b0 : Nat} {v : Value} {d : DataW H} {p : List MemPlace} (hv : Value.okWide Tryz.prog w r b0 24 v) (h : DataW.Trod enc Tryz.prog w base sp held 24 v d p) (hw : Weighs Tryz.prog 24 d) :
  ∃ x : RunR, v = .agg (runC x) ∧ RunK w x := by
 obtain ⟨cs, rfl, hsz⟩ := okWide_struct Tryz.underlying24 hv
 obtain ⟨fuel, hf⟩ := h
 have hsz' : cs.size = 4 := hsz.trans (by kernel_rfl)
 have hf' : DataW.trod enc Tryz.prog w base sp held fuel 24 cs.toList = some (d, p) := hf
 obtain ⟨n2, gat⟩ := open_cells (cs' := cs.toList) Tryz.underlying24 (by kernel_rfl) (by simpa using hsz') hf' hw
 obtain ⟨x0, y0, q0, t0, w0⟩ := gat 0 _ rfl
 obtain ⟨x1, y1, q1, t1, w1⟩ := gat 1 _ rfl
 obtain ⟨x2, y2, q2, t2, w2⟩ := gat 2 _ rfl
 obtain ⟨x3, y3, q3, t3, w3⟩ := gat 3 _ rfl
 obtain ⟨n0, e0, _, _⟩ := DataW.trod_int Tryz.underlying3 t0
 obtain ⟨n1, e1, _, _⟩ := DataW.trod_int Tryz.underlying3 t1
 obtain ⟨n2', e2, _, g2⟩ := DataW.trod_int Tryz.underlying3 t2
 obtain rfl : x0 = .int .i64 n0 := by simpa using e0
 obtain rfl : x1 = .int .i64 n1 := by simpa using e1
 obtain rfl : x2 = .int .i64 n2' := by simpa using e2
 obtain ⟨A, c, l, rfl, hin⟩ := open_os t3 w3
 refine ⟨⟨n0, n1, n2', A, c, l⟩, ?_, ⟨hin, wf_range10 g2⟩⟩
 have e : cs.toList = [.int .i64 n0, .int .i64 n1, .int .i64 n2', .slice A l.length c] := by
  apply List.ext_getElem? 
  intro i
  match i with
  | 0 => exact q0
  | 1 => exact q1
  | 2 => exact q2
  | 3 => exact q3
  | k + 4 => rw [List.getElem?_eq_none (by simp [hsz'])]; rfl
 show Value.agg cs = .agg #[_, _, _, _]
 congr 1
 apply Array.toList_inj.1
 exact e
end
end Go.Proofs.YtjnphajkoopkgaaGreatDoor
