/- Merged texts. What each proves is told at its head. -/
import Derived.Test.YtjnphajkoopkgaaGreatDoorTF
import Derived.Test.YtjnphajkoopkgaaGreatDoorTI
import Derived.Test.YtjnphajkoopkgaaGreatDoorTJ
/- segment: the document's segment with its disk: what stands, what a call leaves. Plain words. No condition. -/
namespace Go.Proofs.YtjnphajkoopkgaaGreatDoor
open Go.RowKit
set_option linter.unusedVariables false
def KdT : List TypeId := [34, 120]
/-- The blocks of the document's disk, made behind W. -/
def KS (W w : World) (k : Nat) : Prop := W.heap.size ≤ k ∧ TyB KdT w k
theorem ks_lt {W w : World} {k : Nat} (h : KS W w k) : k < w.heap.size := by
  obtain ⟨_, cs, t, z, h1, _⟩ := h
  exact lt_of_there h1
theorem ks_old {W w w' : World} {k : Nat} (hb : Below w.heap.size w w') (hk : k < w.heap.size) (h : KS W w' k) : KS W w k := by
  obtain ⟨h0, cs, t, z, h1, h2⟩ := h
  exact ⟨h0, cs, t, z, (hb.block k hk) ▸ h1, h2⟩
theorem kat_kind {w : World} {p : Nat} {a : Dk.Ab} {v : Value} (h : Dk.Kd.KAt w p a v) : TyB KdT w p ∧ ∀ k, v.ownBlock = some k → TyB KdT w k := ⟨.box h.box (by decide), fun k hk => .row h.row hk (by decide)⟩
theorem kis_kind {W w : World} {p : Nat} {a : Dk.Ab} {S : Nat → Prop} (h : Dk.Kd.KIs w p a S) (hS : ∀ k, S k → W.heap.size ≤ k) : Dk.Kd.KIs w p a (KS W w) := by
  obtain ⟨v, h1, h2, h3⟩ := h
  obtain ⟨k1, k2⟩ := kat_kind h1
  exact ⟨v, h1, ⟨hS _ h2, k1⟩, fun k hk => ⟨hS _ (h3 k hk), k2 k hk⟩⟩
theorem kis_off {W w w' : World} {p : Nat} {a : Dk.Ab} {T : Nat → Prop} (h : Dk.Kd.KIs w p a (KS W w)) (ho : Off T w w') (hT : ∀ k, T k → ¬ TyB KdT w k) : Dk.Kd.KIs w' p a (KS W w') :=
  kis_kind (h.off ho (fun k hk ht => hT k ht hk.2)) (fun k hk => hk.1)
theorem kis_later {W w w' : World} {p : Nat} {a : Dk.Ab} (h : Dk.Kd.KIs w p a (KS W w)) (hb : Below w.heap.size w w') : Dk.Kd.KIs w' p a (KS W w') := kis_off h (Off.of_below (fun _ => False) hb) (fun _ x => x.elim)
/-- What a call of the document's disk leaves. -/
theorem kdoes_out {W w w' : World} {p : Nat} {a' : Dk.Ab} {v : Value} {e : Ending} (hs : W.heap.size ≤ w.heap.size) (hd : Dk.Kd.KDoes w p (KS W w) v a' e w') : e = .returned v ∧ Dk.Kd.KIs w' p a' (KS W w') ∧ Off (KS W w) w w' := by
  obtain ⟨he, hk, ho⟩ := hd
  exact ⟨he, kis_kind hk (fun k hk => hk.elim (fun h => h.1) (fun h => Nat.le_trans hs h)), ho⟩
/-- The document's disk and a segment of its, made behind W. -/
structure RD (W : World) (p q : Nat) (n : ByteArray) (base : Int) (a : Dk.Ab) (M : List BX) (B : Option Addr) (d : Nat) (w : World) : Prop where
  kd : Dk.Kd.KIs w p a (KS W w)
  rg : RgIs w W.heap.size p q n base M B d
  bel : Below W.heap.size W w
  ok : ∀ x ∈ M, batB x.1 x.2.1 = true
/-- What a call may write. -/
def RdF (W w : World) (q : Nat) (B : Option Addr) (k : Nat) : Prop := KS W w k ∨ k = q ∨ Ix.blk B k
def RfT : List TypeId := [34, 120, 53, 44]
section
variable {W w w' : World} {p q : Nat} {n : ByteArray} {base : Int} {a a' : Dk.Ab} {M : List BX} {B : Option Addr} {d : Nat}
theorem tyb_mono {ts us : List TypeId} {k : Nat} (h : TyB ts w k) (hs : (ts.all fun t => us.contains t) = true) : TyB us w k := by
  obtain ⟨cs, t, z, h1, h2⟩ := h
  exact ⟨cs, t, z, h1, by have := List.all_eq_true.1 hs t h2; simpa using this⟩
theorem RD.kind (h : RD W p q n base a M B d w) {k : Nat} (hk : RdF W w q B k) : TyB RfT w k := by
  rcases hk with hk | rfl | hk
  · exact tyb_mono hk.2 (by decide)
  · exact .box h.rg.box (by decide)
  · exact .row h.rg.all.row (row_blk h.rg.all.row hk) (by decide)
theorem RD.low (h : RD W p q n base a M B d w) {k : Nat} (hk : RdF W w q B k) : W.heap.size ≤ k ∧ k < w.heap.size := by
  rcases hk with hk | rfl | hk
  · exact ⟨hk.1, ks_lt hk⟩
  · exact ⟨h.rg.lo, h.rg.box.lt⟩
  · exact h.rg.all.row.lt k (row_blk h.rg.all.row hk)
theorem RD.later (h : RD W p q n base a M B d w) (hb : Below w.heap.size w w') : RD W p q n base a M B d w' := ⟨kis_later h.kd hb, h.rg.later hb, h.bel.trans (hb.mono h.bel.size), h.ok⟩
theorem RgIs.off {g : Nat} {T : Nat → Prop} (h : RgIs w g p q n base M B d) (ho : Off T w w') (hT : ∀ k, T k → ¬ TyB [53, 44, 85, 87] w k) : RgIs w' g p q n base M B d :=
  ⟨h.box.off ho (fun hk => hT _ hk (.box h.box (by decide))), btsR_off h.all ho (fun k hk ht => hT k hk (tyb_mono ht (by decide))), h.lo⟩
theorem RD.disk (h : RD W p q n base a M B d w) (hk : Dk.Kd.KIs w' p a' (KS W w')) (ho : Off (KS W w) w w') : RD W p q n base a' M B d w' :=
  ⟨hk, h.rg.off ho (fun k hk ht => hk.2.apart ht (by decide)), h.bel.trans (ho.below h.bel.size (fun k hk => hk.1)), h.ok⟩
theorem RD.bsin (h : RD W p q n base a M B d w) : BsIn w B M := h.rg.all.bsin (fun x hx y hy => (bat_recs (h.ok x hx)).2 y hy)
/-- It stays under the program's calls. -/
theorem RD.seg (h : RD W p q n base a M B d w) (ho : Off (SegK w) w w') (hb : Below W.heap.size W w') : RD W p q n base a M B d w' :=
  ⟨kis_off h.kd ho (fun k hk ht => seg_apart hk ht (by decide) (by decide)), h.rg.off ho (fun k hk ht => seg_apart hk ht (by decide) (by decide)), hb, h.ok⟩
/-- The program's segment stays under the document's calls. -/
theorem SD.doc {s : SG} {T : Nat → Prop} (h : SD W p q a s w) (ho : Off T w w') (hT : ∀ k, T k → W.heap.size ≤ k ∧ TyB RfT w k) : SD W p q a s w' :=
  ⟨at_off h.dk ho (fun k hk _ hd => hd.apart (hT k hk).2 (by decide)) (fun k hk => (hT k hk).1), h.sg.off ho (fun k hk ht => (sg_kind h.sg hk).apart (hT k ht).2 (by decide)) (fun k ht hr => hr.apart (hT k ht).2 (by decide)), h.hp, h.ok⟩
theorem rd_end (h : RD W p q n base a M B d w) (hl : M.length ≤ 1000000) : Calls Tryz.prog 15 #[sp q] w (Good w (.int .i64 (endN base (M.map BX.told)))) :=
  rend_c W.heap.size p q n base M B d w h.rg h.bsin (fun x hx => bat_num (h.ok x hx)) hl
theorem rd_size (h : RD W p q n base a M B d w) (hl : M.length ≤ 600000) : Calls Tryz.prog 17 #[sp q] w (Good w (.int .i64 (lenN (M.map BX.told) : Int))) :=
  rsz_c W.heap.size p q n base M B d w h.rg h.bsin h.ok hl
end
def RdOut (W : World) (p q : Nat) (n : ByteArray) (base : Int) (B : Option Addr) (w : World) (a' : Dk.Ab) (N : List BR) (w' : World) : Prop :=
  ∃ M' B' d', RD W p q n base a' M' B' d' w' ∧ M'.map BX.told = N ∧ Off (RdF W w q B) w w'
def GotRdd (W : World) (p q : Nat) (n : ByteArray) (base : Int) (B : Option Addr) (w : World) (v : Value) (a' : Dk.Ab) (N : List BR) (e : Ending) (w' : World) : Prop := e = .returned v ∧ RdOut W p q n base B w a' N w'
theorem RdOut.stay {W w w' : World} {p q : Nat} {n : ByteArray} {base : Int} {a : Dk.Ab} {M : List BX} {B : Option Addr} {d : Nat} (h : RD W p q n base a M B d w) (hb : Below w.heap.size w w') : RdOut W p q n base B w a (M.map BX.told) w' := ⟨M, B, d, h.later hb, rfl, Off.of_below _ hb⟩
/-- Append, as the document has it. -/
def gE (a : Dk.Ab) (n : ByteArray) (en : Int) (b : BN) (R : List RX) : Int := if batB b R = true then (if b.base < en then 1 else Dk.appE a n (encB b R)) else 1
def gA (a : Dk.Ab) (n : ByteArray) (en : Int) (b : BN) (R : List RX) : Dk.Ab := if gE a n en b R = 0 then Dk.appA a n (encB b R) else a
def gN (a : Dk.Ab) (n : ByteArray) (en : Int) (b : BN) (R : List RX) (N : List BR) : List BR := if gE a n en b R = 0 then N ++ [(b, R.map (·.1))] else N
theorem apE_g (a : Dk.Ab) (s : SG) (b : BN) (R : List RX) : apE a s b R = gE a s.name s.end_ b R := rfl
theorem apA_g (a : Dk.Ab) (s : SG) (b : BN) (R : List RX) : apA a s b R = gA a s.name s.end_ b R := rfl
theorem apN_g (a : Dk.Ab) (s : SG) (b : BN) (R : List RX) : apN a s b R = gN a s.name s.end_ b R (s.L.map PX.told) := rfl
/-- One batch more in the list. -/
theorem RgIs.longer {w : World} {g p q : Nat} {n : ByteArray} {base : Int} {M : List BX} {B : Option Addr} {d : Nat} (h : RgIs w g p q n base M B d) (hg : g ≤ w.heap.size) (y : BX) (hy : RowR w g (.slice y.2.2.1 y.2.1.length y.2.2.2) y.2.1) (hl : M.length ≤ 1000000) :
    ∃ (b' d' : Nat) (w' : World), (Builtin.append_ #[51, 51] 51 #[.slice B M.length d, .slice (some ⟨w.heap.size, 0, none⟩) 1 1]).run Tryz.prog (w.alloc (.cells (bnC y.1 (.slice y.2.2.1 y.2.1.length y.2.2.2)) 44)) = .ok (.slice (some ⟨b', 0, none⟩) (M.length + 1) d') w' ∧
      Box w' q 53 #[.pointer (some ⟨p, 0, none⟩), .string n, .int .i64 base, .slice B M.length d] ∧ RgIs (w'.setCell ⟨q, 3, none⟩ (.slice (some ⟨b', 0, none⟩) (M.length + 1) d')) g p q n base (M ++ [y]) (some ⟨b', 0, none⟩) d' ∧
      Off (fun k => k = q ∨ Ix.blk B k) w (w'.setCell ⟨q, 3, none⟩ (.slice (some ⟨b', 0, none⟩) (M.length + 1) d')) ∧ (Ix.blk B b' ∨ w.heap.size ≤ b') := by
  have hA : Below w.heap.size w (w.alloc (.cells (bnC y.1 (.slice y.2.2.1 y.2.1.length y.2.2.2)) 44)) := (Below.refl _ _).alloc (Nat.le_refl _) _
  have h' := h.later hA
  have hy' := hy.later hA
  have hbn := Box.new w 44 (bnC y.1 (.slice y.2.2.1 y.2.1.length y.2.2.2))
  have hsz : g ≤ (w.alloc (.cells (bnC y.1 (.slice y.2.2.1 y.2.1.length y.2.2.2)) 44)).heap.size := Nat.le_trans hg hA.size
  have hsz2 : w.heap.size < (w.alloc (.cells (bnC y.1 (.slice y.2.2.1 y.2.1.length y.2.2.2)) 44)).heap.size := by rw [World.size_alloc]; omega
  generalize hw9 : (w.alloc (.cells (bnC y.1 (.slice y.2.2.1 y.2.1.length y.2.2.2)) 44)) = w9 at *
  obtain ⟨i0, hq, hqz, hqs, hqb⟩ := info_parts batInfo
  obtain ⟨b', d', w', r1, o1, g1, hb1, hlt⟩ := run_append_lies (P := Tryz.prog) (w := w9) 51 51 g 44 i0 (.agg #[.int .i64 0, .int .i64 0, .int .i64 0, .int .i64 0, .int .i64 0, .slice none 0 0]) 6 64 Tryz.underlying51 hq hqz hqs hqb rfl (by decide) _ M.length (batsC M) h'.all.row ⟨w.heap.size, 0, none⟩ 1 1 (bnC y.1 (.slice y.2.2.1 y.2.1.length y.2.2.2)).toList rfl (news_at hbn) (bat_one y.1 y.2.2.1 y.2.1.length y.2.2.2) (by decide) (by unfold maxLen; omega) (by omega) hsz w9.heap.size rfl
  have hbx : Box w' q 53 #[.pointer (some ⟨p, 0, none⟩), .string n, .int .i64 base, .slice B M.length d] := h'.box.kept_by g1 (by
    cases ho : (Value.slice B M.length d).ownBlock with
    | none => exact .inl rfl
    | some j => exact .inr (fun e => own_ne h'.all.row h'.box (by decide) j ho (by injection e)))
  have hall := h'.all.grow hy' o1 g1
  have hO2 : Off (· = q) w' (w'.setCell ⟨q, 3, none⟩ (.slice (some ⟨b', 0, none⟩) (M.length + 1) d')) := Off.one w' ⟨q, 3, none⟩ _
  have hlen : (M ++ [y]).length = M.length + 1 := by rw [List.length_append]; rfl
  refine ⟨b', d', w', r1, hbx, ⟨?_, ?_, h.lo⟩, ?_, ?_⟩
  · have h3 := hbx.set 3 (.slice (some ⟨b', 0, none⟩) (M.length + 1) d')
    rw [hlen]
    exact h3
  · rw [hlen]
    exact btsR_off hall hO2 (fun k e hr => (e ▸ hr).apart (.box hbx (List.mem_singleton.2 rfl) : TyB [53] w' q) (by decide))
  · exact (((Off.of_below (fun k => k = q ∨ Ix.blk B k) hA).grown g1 (fun k hk _ => .inr (own_blk hk)))).trans hO2 (fun k _ e => .inl e)
  · rcases hb1 with hb1 | hb1
    · exact .inl (own_blk hb1)
    · exact .inr (by omega)
theorem RD.longer {W w w2 : World} {p q : Nat} {n : ByteArray} {base : Int} {a : Dk.Ab} {M : List BX} {B B' : Option Addr} {d d' : Nat} {y : BX} (h : RD W p q n base a M B d w) (hr : RgIs w2 W.heap.size p q n base (M ++ [y]) B' d') (ho : Off (fun k => k = q ∨ Ix.blk B k) w w2) (hy : batB y.1 y.2.1 = true) : RD W p q n base a (M ++ [y]) B' d' w2 := by
  have hk : ∀ k, (k = q ∨ Ix.blk B k) → RdF W w q B k := fun k hk => .inr hk
  refine ⟨kis_off h.kd ho (fun k hk ht => ?_), hr, h.bel.trans (ho.below h.bel.size (fun k e => (h.low (hk k e)).1)), fun x hx => ?_⟩
  · rcases hk with rfl | hk
    · exact ht.apart (.box h.rg.box (List.mem_singleton.2 rfl) : TyB [53] w _) (by decide)
    · exact ht.apart (.row h.rg.all.row (row_blk h.rg.all.row hk) (List.mem_singleton.2 rfl) : TyB [44] w _) (by decide)
  · rcases List.mem_append.1 hx with hx | hx
    · exact h.ok x hx
    · have : x = y := by simpa using hx
      subst this
      exact hy
end Go.Proofs.YtjnphajkoopkgaaGreatDoor
/- segment: the document's Append and Sync: by contracts. No condition but that there are not too many. -/
namespace Go.Proofs.YtjnphajkoopkgaaGreatDoor
open Go.RowKit
set_option linter.unusedVariables false
set_option maxHeartbeats 8000000 in
set_option maxRecDepth 100000 in
theorem rapp_c (W w : World) (p q : Nat) (n : ByteArray) (base : Int) (a : Dk.Ab) (M : List BX) (B : Option Addr) (d : Nat) (b : BN) (R : List RX) (A : Option Addr) (c : Nat) (h : RD W p q n base a M B d w) (ha : Dk.Kd.AbOk a) (hlen : a.L.length ≤ 1000000) (hnm : Dk.nameB n = true) (hl : M.length ≤ 600000) (hin : RsIn w A R) (hrow : RowR w W.heap.size (.slice A R.length c) R) (hR : R.length ≤ 140737488351232) :
    Calls Tryz.prog 33 #[sp q, .agg (bnC b (.slice A R.length c))] w (GotRdd W p q n base B w (.int .i64 (gE a n (endN base (M.map BX.told)) b R)) (gA a n (endN base (M.map BX.told)) b R) (gN a n (endN base (M.map BX.told)) b R (M.map BX.told))) := by
  obtain ⟨bs, span, prod, epoch, seq⟩ := b
  have hb0 : Below w.heap.size w (w.alloc (.cells #[.int .i64 bs, .int .i64 span, .int .i64 prod, .int .i64 epoch, .int .i64 seq, .slice A R.length c] 44)) := (Below.refl _ _).alloc (Nat.le_refl _) _
  have hx := Box.new w 44 #[.int .i64 bs, .int .i64 span, .int .i64 prod, .int .i64 epoch, .int .i64 seq, .slice A R.length c]
  have ce := fun w' (hb : Below w.heap.size w w') => rencode5_c ⟨bs, span, prod, epoch, seq⟩ A c R w' (hin.below hb) hR
  have H := Lib.hid h
  have HB0 := Lib.hid hb0
  have HX := Lib.hid hx
  have HROW := Lib.hid hrow
  unfold bnC encV sp at *
  unfold batE at ce
  dsimp only at *
  generalize hEN : endN base (M.map BX.told) = en at *
  go_enter Tryz.func33, Tryz.ntmps33
  cases hbb : batB ⟨bs, span, prod, epoch, seq⟩ R with
  | false =>
    have e1 : gE a n en ⟨bs, span, prod, epoch, seq⟩ R = 1 := by unfold gE; rw [if_neg (by rw [hbb]; decide)]
    have e2 : gA a n en ⟨bs, span, prod, epoch, seq⟩ R = a := by unfold gA; rw [e1]; rfl
    have e3 : gN a n en ⟨bs, span, prod, epoch, seq⟩ R (M.map BX.told) = M.map BX.told := by unfold gN; rw [e1]; rfl
    rw [e1, e2, e3]
    have c1 := ce _ hb0
    rw [hbb, if_neg (by decide)] at c1
    clear h hb0 hx e1 e2 e3 hbb ce hin ha hEN hrow
    go_wp2_with fail
    (with_reducible refine c1.mono ?_)
    rintro e w1 ⟨rfl, hb1⟩
    have HB1 := Lib.hid (HB0.out.trans (hb1.mono HB0.out.size))
    clear c1 hb1
    go_wp2_with fail
    go_quiet (fail)
    go_wp2_with fail
    go_ret
    exact ⟨rfl, RdOut.stay H.out (HB1.out.trans ⟨rfl, rfl, rfl, Nat.le_refl _, fun _ _ => rfl⟩)⟩
  | true =>
    have c1 := ce _ hb0
    rw [hbb, if_pos rfl] at c1
    have HBB := Lib.hid hbb
    generalize hE : encB ⟨bs, span, prod, epoch, seq⟩ R = E at *
    have HE := Lib.hid hE
    have cend := fun w' (hb : Below w.heap.size w w') => rd_end (h.later hb) (by omega)
    rw [hEN] at cend
    unfold sp at cend
    have HA := Lib.hid ha
    clear h hb0 hx hbb ce hE ha hEN hin hrow
    go_wp2_with fail
    (with_reducible refine c1.mono ?_)
    rintro e w1 ⟨rfl, hb1⟩
    have hb01 := HB0.out.trans (hb1.mono HB0.out.size)
    have HB1 := Lib.hid hb01
    have hx1 := HX.out.later hb1
    have HX1 := Lib.hid hx1
    have hs : w1.cell? ⟨w.heap.size, 0, none⟩ = some (.int .i64 bs) ∧ w.heap.size < w1.heap.size ∧ Below w.heap.size w w1 := ⟨(hx1.cell 0).trans rfl, hx1.lt, hb01⟩
    have hstep := fun (v v' : World) (h : v.cell? ⟨w.heap.size, 0, none⟩ = some (.int .i64 bs) ∧ w.heap.size < v.heap.size ∧ Below w.heap.size w v) (hb : Below v.heap.size v v') => (⟨(hb.cell (p := ⟨w.heap.size, 0, none⟩) h.2.1).trans h.1, Nat.lt_of_lt_of_le h.2.1 hb.size, h.2.2.trans (hb.mono h.2.2.size)⟩ : v'.cell? ⟨w.heap.size, 0, none⟩ = some (.int .i64 bs) ∧ w.heap.size < v'.heap.size ∧ Below w.heap.size w v')
    clear c1 hb1 hx1 hb01
    by_cases hc : bs < en
    · have e1 : gE a n en ⟨bs, span, prod, epoch, seq⟩ R = 1 := by unfold gE; rw [if_pos HBB.out, if_pos hc]
      have e2 : gA a n en ⟨bs, span, prod, epoch, seq⟩ R = a := by unfold gA; rw [e1]; rfl
      have e3 : gN a n en ⟨bs, span, prod, epoch, seq⟩ R (M.map BX.told) = M.map BX.told := by unfold gN; rw [e1]; rfl
      have HQ := Lib.hid (And.intro e1 (And.intro e2 e3))
      clear e1 e2 e3
      go_wp2_with fail
      go_region_held3 (fun v => v.cell? ⟨w.heap.size, 0, none⟩ = some (.int .i64 bs) ∧ w.heap.size < v.heap.size ∧ Below w.heap.size w v) (first | exact hstep _ _ hs ((Below.refl _ _).drew) | exact hstep _ _ (by assumption) (by assumption))
        (first | ((with_reducible refine (cend _ (by first | exact hs.2.2.trans ((Below.refl _ _).drew.mono hs.2.2.size))).mono ?_); rintro e w2 ⟨rfl, hb2⟩))
      all_goals
        go_wp2_with fail
        go_ret
        rw [HQ.out.1, HQ.out.2.1, HQ.out.2.2]
        exact ⟨rfl, RdOut.stay H.out (hs.2.2.trans (((Below.refl _ _).drew.trans hb2).mono hs.2.2.size))⟩
    · have hle : en ≤ bs := by omega
      have e1 : gE a n en ⟨bs, span, prod, epoch, seq⟩ R = Dk.appE a n E := by unfold gE; rw [if_pos HBB.out, if_neg hc, HE.out]
      have HQ := Lib.hid e1
      clear e1
      go_upto_region 2 with fail
      go_cut [21] from 13 to 21 (fun v wx => v = .bool false ∧ Below w1.heap.size w1 wx)
      case first =>
        go_region_held3 (fun v => v.cell? ⟨w.heap.size, 0, none⟩ = some (.int .i64 bs) ∧ w.heap.size < v.heap.size ∧ Below w.heap.size w v) (first | exact hstep _ _ hs ((Below.refl _ _).drew) | exact hstep _ _ (by assumption) (by assumption))
          (first | ((with_reducible refine (cend _ (by first | exact hs.2.2.trans ((Below.refl _ _).drew.mono hs.2.2.size))).mono ?_); rintro e w2 ⟨rfl, hb2⟩))
        all_goals
          go_wp2_with fail
          go_meet
          exact ⟨by first | rfl | exact congrArg Value.bool (decide_eq_false (by omega)), (Below.refl _ _).drew.trans hb2⟩
      case rest =>
        obtain ⟨rfl, hbc1⟩ := hcut
        have hbc := HB1.out.trans (hbc1.mono HB1.out.size)
        have hd := H.out.later hbc
        have HD := Lib.hid hd
        have HBC := Lib.hid hbc
        have HXC := Lib.hid (HX1.out.later hbc1)
        obtain ⟨y0, y1, y2, y3, hql⟩ := hd.rg.cells
        have hs2 : wc.drew.cell? ⟨q, 0, none⟩ = some (.pointer (some ⟨p, 0, none⟩)) ∧ wc.drew.cell? ⟨q, 1, none⟩ = some (.string n) ∧ q < wc.drew.heap.size := ⟨y0, y1, hql⟩
        have hnm1 : n.size ≤ 140737488351232 := by unfold Dk.nameB at hnm; simp at hnm; omega
        have hEs : E.size ≤ 140737488351232 := by rw [← HE.out]; have := (encB_size HBB.out).2; omega
        have ca := fun v (hv : RD W p q n base a M B d v) => (Dk.Kd.kapp_c p a (KS W v) n E v hv.kd HA.out hlen hnm1 hEs).mono (fun _ _ hd => kdoes_out hv.bel.size hd)
        unfold Dk.dp at ca
        clear hs hstep cend hd hbc hbc1 hnm hnm1 hEs
        go_upto_region 4 with fail
        go_region_held3 (fun v => v.cell? ⟨q, 0, none⟩ = some (.pointer (some ⟨p, 0, none⟩)) ∧ v.cell? ⟨q, 1, none⟩ = some (.string n) ∧ q < v.heap.size) (first | exact hs2 | assumption)
          (first | ((with_reducible refine (ca _ (HD.out.later (Below.refl _ _).drew)).mono ?_); rintro e w3 hdk; obtain ⟨rfl, hk3, hof3⟩ := hdk; have hd3 := (HD.out.later (Below.refl _ _).drew).disk hk3 hof3; have hq3 : w3.cell? ⟨q, 0, none⟩ = some (.pointer (some ⟨p, 0, none⟩)) ∧ w3.cell? ⟨q, 1, none⟩ = some (.string n) ∧ q < w3.heap.size := ⟨hd3.rg.cells.1, hd3.rg.cells.2.1, hd3.rg.cells.2.2.2.2⟩))
        all_goals
          have hx3 := (HXC.out.later (Below.refl _ _).drew).off hof3 (fun hk => hk.2.apart (.box (HXC.out.later (Below.refl _ _).drew) (List.mem_singleton.2 rfl) : TyB [44] _ _) (by decide))
          have HO3 := Lib.hid (And.intro hd3 hof3)
          have HW3 : Hid (Off (RdF W w q B) w w3) := Lib.hid ((Off.of_below (RdF W w q B) (HBC.out.trans ((Below.refl _ _).drew.mono HBC.out.size))).trans hof3 (fun k hk h => .inl (ks_old (HBC.out.trans ((Below.refl _ _).drew.mono HBC.out.size)) hk h)))
          have HX3 := Lib.hid hx3
          have HROW3 : Hid (RowR w3 W.heap.size (.slice A R.length c) R) := Lib.hid (rowR_off (HROW.out.later (HBC.out.trans ((Below.refl _ _).drew.mono HBC.out.size))) hof3 (fun k hk hr => hk.2.apart hr (by decide)))
          clear hk3 hof3 hd3 hq3 ca hs2 hx3
          generalize hae : Dk.appE a n E = ae at *
          have HAE := Lib.hid hae
          clear hae y0 y1 y2 y3 hql
          by_cases hz : ae = 0
          · subst hz
            have hd3 := HO3.out.1.later (Below.refl _ _).drew
            have HD3 := Lib.hid hd3
            obtain ⟨y0, y1, y2, y3, hql⟩ := hd3.rg.cells
            have hx3 := HX3.out.later (Below.refl _ _).drew
            have x0 := (hx3.cell 0).trans (show _ = some (Value.int .i64 bs) from rfl)
            have x1 := (hx3.cell 1).trans (show _ = some (Value.int .i64 span) from rfl)
            have x2 := (hx3.cell 2).trans (show _ = some (Value.int .i64 prod) from rfl)
            have x3 := (hx3.cell 3).trans (show _ = some (Value.int .i64 epoch) from rfl)
            have x4 := (hx3.cell 4).trans (show _ = some (Value.int .i64 seq) from rfl)
            have x5 := (hx3.cell 5).trans (show _ = some (Value.slice A R.length c) from rfl)
            have xl := hx3.lt
            obtain ⟨hr50, hrok⟩ := bat_recs HBB.out
            have cc := rcopy5_c ⟨bs, span, prod, epoch, seq⟩ R A c w3.drew ((HROW3.out.later (Below.refl _ _).drew).rsin hrok) (by omega) (fun y hy => by have := (okRec_parts (hrok y hy)).2.2.1; omega)
            unfold CopiedB bnC at cc
            dsimp only at cc
            have HM1 : Hid (M.length ≤ 1000000) := Lib.hid (by omega)
            clear hd3 hx3 hrok hr50
            go_upto_region 6 with fail
            go_region_law (first | (refine step_append_run rfl (.tmp 38) (.tmp 41) 51 rfl (.slice B M.length d) (.slice (some ⟨w4.heap.size, 0, none⟩) 1 1) (.slice (some ⟨b5, 0, none⟩) (M.length + 1) d5) (by simp [Act.eval]) (by simp [Act.eval]) r5 ?_) | (go_simp; go_at_call 22; (with_reducible refine cc.mono ?_); rintro e w4 ⟨M4, A4, c4, hM4, rfl, hr4, hb4⟩; obtain ⟨b5, d5, w5, r5, hbx5, hI5, hO5, _⟩ := (HD3.out.later hb4).rg.longer (HD3.out.later hb4).bel.size ((⟨bs, span, prod, epoch, seq⟩, M4, A4, c4) : BX) (hr4.base HD3.out.bel.size) HM1.out; unfold bnC at r5; dsimp only at r5; have hF5 := Lib.hid (And.intro hI5 (And.intro hO5 (And.intro hM4 hb4))); have hq4 : w5.cell? ⟨q, 3, none⟩ = some (.slice B M.length d) := hbx5.cell 3; have hf4 := hbx5.frozen 3; have hq5 := hbx5.lt; have hv3 : w4.cell? ⟨q, 3, none⟩ = some (.slice B M.length d) := (HD3.out.later hb4).rg.cells.2.2.2.1; have hvl : q < w4.heap.size := (HD3.out.later hb4).rg.cells.2.2.2.2))
            all_goals
              clear cc hq4 hf4 hq5 hv3 hvl x0 x1 x2 x3 x4 x5 xl y0 y1 y2 y3 hql r5 hbx5
              go_wp2_with fail
              go_ret
              have hF := hF5.out
              have hbM : batB ⟨bs, span, prod, epoch, seq⟩ M4 = true := by rw [batB_congr _ hF.2.2.1]; exact HBB.out
              have hd6 := (HD3.out.later hF.2.2.2).longer hF.1 hF.2.1 hbM
              have e1 : gE a n en ⟨bs, span, prod, epoch, seq⟩ R = 0 := HQ.out
              have e2 : gA a n en ⟨bs, span, prod, epoch, seq⟩ R = Dk.appA a n E := by unfold gA; rw [e1, HE.out]; rfl
              have e3 : gN a n en ⟨bs, span, prod, epoch, seq⟩ R (M.map BX.told) = M.map BX.told ++ [(⟨bs, span, prod, epoch, seq⟩, R.map (·.1))] := by unfold gN; rw [e1]; rfl
              rw [e1, e2, e3]
              refine ⟨rfl, _, _, _, hd6, ?_, (HW3.out.later ((Below.refl _ _).drew.trans hF.2.2.2)).trans hF.2.1 (fun k _ hk => .inr hk)⟩
              rw [List.map_append, ← hF.2.2.1]
              rfl
          · have hz' : (ae == 0) = false := by simpa using hz
            have HZ := Lib.hid hz
            clear hz
            go_wp2_with fail
            go_ret
            rw [HQ.out]
            have e2 : gA a n en ⟨bs, span, prod, epoch, seq⟩ R = a := by unfold gA; rw [HQ.out, if_neg HZ.out]
            have e3 : gN a n en ⟨bs, span, prod, epoch, seq⟩ R (M.map BX.told) = M.map BX.told := by unfold gN; rw [HQ.out, if_neg HZ.out]
            have e4 : Dk.appA a n E = a := by unfold Dk.appA; rw [HAE.out, if_neg HZ.out]
            rw [e2, e3]
            have h3 := HO3.out.1
            rw [e4] at h3
            exact ⟨rfl, M, B, d, h3, rfl, HW3.out⟩
/-- Sync: an error of the disk's that there is no file is none. -/
def gsyE (a : Dk.Ab) (n : ByteArray) : Int := if Dk.seeE a n.data.toList = 6 then 0 else Dk.seeE a n.data.toList
theorem syE_g (a : Dk.Ab) (s : SG) : syE a s = gsyE a s.name := rfl
set_option maxHeartbeats 8000000 in
set_option maxRecDepth 100000 in
theorem rsync_c (W w : World) (p q : Nat) (n : ByteArray) (base : Int) (a : Dk.Ab) (M : List BX) (B : Option Addr) (d : Nat) (h : RD W p q n base a M B d w) (ha : Dk.Kd.AbOk a) (hlen : a.L.length ≤ 1000000) :
    Calls Tryz.prog 34 #[sp q] w (GotRdd W p q n base B w (.int .i64 (gsyE a n)) (Dk.syncA a n.data.toList) (M.map BX.told)) := by
  have HD := Lib.hid h
  obtain ⟨y0, y1, y2, y3, hql⟩ := h.rg.cells
  have hs2 : w.drew.cell? ⟨q, 0, none⟩ = some (.pointer (some ⟨p, 0, none⟩)) ∧ w.drew.cell? ⟨q, 1, none⟩ = some (.string n) ∧ q < w.drew.heap.size := ⟨y0, y1, hql⟩
  have ca := fun v (hv : RD W p q n base a M B d v) => (Dk.Kd.ksync_c p a (KS W v) n v hv.kd ha hlen).mono (fun _ _ hd => kdoes_out hv.bel.size hd)
  unfold Dk.dp at ca
  unfold sp
  clear h ha
  go_enter Tryz.func34, Tryz.ntmps34
  go_wp2_with fail
  go_region_held3 (fun v => v.cell? ⟨q, 0, none⟩ = some (.pointer (some ⟨p, 0, none⟩)) ∧ v.cell? ⟨q, 1, none⟩ = some (.string n) ∧ q < v.heap.size) (first | exact hs2 | assumption)
    (first | ((with_reducible refine (ca _ (HD.out.later (Below.refl _ _).drew)).mono ?_); rintro e w3 hdk; obtain ⟨rfl, hk3, hof3⟩ := hdk; have hd3 := (HD.out.later (Below.refl _ _).drew).disk hk3 hof3; have hq3 : w3.cell? ⟨q, 0, none⟩ = some (.pointer (some ⟨p, 0, none⟩)) ∧ w3.cell? ⟨q, 1, none⟩ = some (.string n) ∧ q < w3.heap.size := ⟨hd3.rg.cells.1, hd3.rg.cells.2.1, hd3.rg.cells.2.2.2.2⟩))
  all_goals
    have HR : Hid (RdOut W p q n base B w (Dk.syncA a n.data.toList) (M.map BX.told) w3) := Lib.hid ⟨M, B, d, hd3, rfl, (Off.of_below (RdF W w q B) ((Below.refl _ _).drew)).trans hof3 (fun k hk h => .inl (ks_old (Below.refl _ _).drew hk h))⟩
    have HSY : Hid (gsyE a n = if Dk.seeE a n.data.toList = 6 then 0 else Dk.seeE a n.data.toList) := Lib.hid rfl
    generalize Dk.seeE a n.data.toList = ae at *
    clear hk3 hof3 hd3 hq3 ca hs2 y0 y1 y2 y3 hql
    by_cases hz : ae = 6
    · have hz' : (ae == 6) = true := by simpa using hz
      have HZ := Lib.hid hz
      clear hz
      go_wp2_with fail
      go_ret
      rw [HSY.out, if_pos HZ.out]
      exact ⟨rfl, HR.out⟩
    · have hz' : (ae == 6) = false := by simpa using hz
      have HZ := Lib.hid hz
      clear hz
      go_wp2_with fail
      go_ret
      rw [HSY.out, if_neg HZ.out]
      exact ⟨rfl, HR.out⟩
end Go.Proofs.YtjnphajkoopkgaaGreatDoor
