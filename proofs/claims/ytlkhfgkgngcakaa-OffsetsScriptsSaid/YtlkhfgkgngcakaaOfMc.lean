/- offsets: the law's holds, by a contract: a table and the document's beside it. No condition. -/
import Derived.Test.YtlkhfgkgngcakaaOfNa
import Derived.Test.YtlkhfgkgngcakaaOfNn
import Derived.Test.YtlkhfgkgngcakaaOfMa
import Derived.Test.YtlkhfgkgngcakaaOfLv
import Derived.Test.YtlkhfgkgngcakaaRecBase
import Derived.Test.YtlkhfgkgngcakaaOfEm
import Derived.RegionTactic
import Derived.BigQuiet
import Derived.Deep.QuietTactic
import Derived.Deep.DeepCutAuto
import Derived.Deep.RegionHeld3
import Derived.Laws.StructEq
namespace Go.Proofs.Ytlkhfgkgngcakaa
open Go.RowKit Go.WideAt Go.Lib
set_option linter.unusedVariables false
/-- The program's table with the entries F, the document's with G's rows, both a call's own. -/
structure Pr (W0 : World) (p g d : Nat) (room : Int) (F G : List KE) (w : World) : Prop where
  ot : OT W0 p g room F w
  rd : ∃ L A c, RdIs w W0.heap.size d room L A c ∧ DL L G
  ok : FOk room G
  hd : W0.heap.size ≤ d
  below : Below W0.heap.size W0 w
theorem Pr.later {W0 w w' : World} {p g d : Nat} {room : Int} {F G : List KE} (h : Pr W0 p g d room F G w) (hb : Below w.heap.size w w') : Pr W0 p g d room F G w' := by
  obtain ⟨L, A, c, h1, h2⟩ := h.rd
  exact ⟨h.ot.later hb, ⟨L, A, c, h1.later hb, h2⟩, h.ok, h.hd, h.below.trans (hb.mono h.below.size)⟩
theorem Pr.drew {W0 w : World} {p g d : Nat} {room : Int} {F G : List KE} (h : Pr W0 p g d room F G w) : Pr W0 p g d room F G w.drew := h.later (Below.refl _ _).drew
theorem Pr.prog {W0 w w' : World} {p g d : Nat} {room : Int} {F G K : List KE} (h : Pr W0 p g d room F G w) (hw : Wr W0 p g room K w w') : Pr W0 p g d room K G w' := by
  obtain ⟨L, A, c, h1, h2⟩ := h.rd
  obtain ⟨es, clock, hm, _⟩ := h.ot.is.map
  refine ⟨hw.ot, ⟨L, A, c, ⟨h1.box.off hw.off (fun e => ?_), own_off h1.row hw.off (fun k hk e => ?_)⟩, h2⟩, h.ok, h.hd, h.ot.below hw h.below⟩
  · have e : d = g := e
    subst e
    have := h1.box
    unfold Box at this
    rw [hm] at this
    cases this
  · have e : k = g := e
    subst e
    rcases h1.row.2 with ⟨hv, _⟩ | ⟨g', cap, cur, hv, _, hh, _⟩
    · rw [hv] at hk; cases hk
    · rw [hv] at hk
      have hk' : some g' = some k := hk
      injection hk' with hk'
      subst hk'
      rw [hm] at hh
      cases hh
theorem Pr.doc {W0 w w' : World} {p g d : Nat} {room : Int} {F G K : List KE} {v : Value} {e : Ending} (h : Pr W0 p g d room F G w) (hw : GotS2 w W0.heap.size d room K v e w') (hk : FOk room K) : Pr W0 p g d room F K w' :=
  ⟨⟨hw.2.2.1.is h.ot.is, h.ot.hp, h.ot.hg, h.ot.ok⟩, hw.2.1, hk, h.hd, h.below.trans hw.2.2.2⟩
/-- While holds goes on. -/
structure HoI (W0 : World) (p g d : Nat) (room : Int) (F L : List KE) (A : Option Addr) (c B : Nat) (A2 : Option Addr) (c2 : Nat) (W w : World) : Prop where
  ot : OT W0 p g room F w
  rd : RdIs w W0.heap.size d room L A c
  row : w.ownsRow B 45 3 (.slice A2 L.length c2) L.length (rowKy (L.map (·.1)))
  below : Below W.heap.size W w
theorem HoI.later {W0 W w w' : World} {p g d c B c2 : Nat} {room : Int} {F L : List KE} {A A2 : Option Addr} (h : HoI W0 p g d room F L A c B A2 c2 W w) (hb : Below w.heap.size w w') : HoI W0 p g d room F L A c B A2 c2 W w' :=
  ⟨h.ot.later hb, h.rd.later hb, own_below h.row hb, h.below.trans (hb.mono h.below.size)⟩
theorem geD_mem {L F : List KE} {room : Int} (hD : DL L F) (ho : FOk room F) {k : Nat} {x : KE} (hx : L[k]? = some x) : geR F x.1 = (x.2, true) := by
  have hm := List.mem_of_getElem? hx
  have hky := ho.keys x (hD.perm.mem_iff.1 hm)
  rw [← hD.get ho hky]
  rcases geD_find L x.1 with ⟨h1, _⟩ | ⟨i, e, h1, h2, h3, h4⟩
  · obtain ⟨i, e, h2, _⟩ := findD_some hm rfl
    rw [h1] at h2; omega
  · have := hD.uniq h2 hx h3
    subst this
    rw [h2] at hx
    injection hx with hx
    subst hx
    exact h4
set_option maxHeartbeats 8000000 in
set_option maxRecDepth 100000 in
theorem holds_c {W0 W : World} {p g d : Nat} {room : Int} {F : List KE} (h : Pr W0 p g d room F F W) :
    Calls Try.prog 11 #[.pointer (some ⟨p, 0, none⟩), .pointer (some ⟨d, 0, none⟩)] W (fun e w' => e = .returned (.bool true) ∧ Below W.heap.size W w') := by
  obtain ⟨L, A, c, hrd, hdl⟩ := h.rd
  have HO := Lib.hid h.ot
  have HRD := Lib.hid hrd
  have HDL := Lib.hid hdl
  have HOK := Lib.hid h.ok
  have hlen := hdl.len
  have hm1 : L.length ≤ 10000 := by have := h.ok.len; have := h.ok.room; rw [hlen]; omega
  have HKS := Lib.hid (hdl.keys (room := room))
  have ck := keys_v HO.out
  have HG := Lib.hid (fun (k : Nat) (x : KE) (hx : L[k]? = some x) => geD_mem hdl h.ok hx)
  have HGK := Lib.hid (show ∀ (k : Nat) (x : KE), L[k]? = some x → KyOk x.1 from fun k x hx => h.ok.keys x (hdl.perm.mem_iff.1 (List.mem_of_getElem? hx)))
  clear h hrd hdl
  go_enter Try.func11, Try.ntmps11
  go_wp2_with fail
  with_reducible refine ck.mono ?_
  rintro en w1 ⟨A2, c2, rfl, hrow, hb⟩
  rw [HKS.out, ← hlen] at hrow
  rw [← hlen]
  have HR := Lib.hid (show HoI W0 p g d room F L A c W.heap.size A2 c2 W w1 from ⟨HO.out.later hb, HRD.out.later hb, hrow, hb⟩)
  clear hrow hb ck HO HRD hlen
  obtain ⟨c0, c1, cl⟩ := HR.out.rd.cells
  have HMK := Lib.hid (show ∀ (k : Nat) (x : KE), L[k]? = some x → (L.map (·.1))[k]? = some x.1 from fun k x hx => by rw [List.getElem?_map, hx]; rfl)
  have HML : Hid ((L.map (·.1)).length = L.length) := Lib.hid (List.length_map _)
  obtain ⟨m, hm⟩ : ∃ m, L.length = m := ⟨_, rfl⟩
  have HM := Lib.hid hm
  rw [hm] at hm1 c1 ⊢
  clear hm
  generalize W.heap.size = BB at *
  go_wp2_with fail
  go_loopw [6] (fun i wr => ∃ k : Nat, i = .int .i64 k ∧ k ≤ m ∧ HoI W0 p g d room F L A c BB A2 c2 W wr) (fun i _ => m - (intOf i).toNat)
  case atStart => exact ⟨0, rfl, Nat.zero_le _, HR.out⟩
  case round =>
    obtain ⟨k, rfl, hk, hI⟩ := hrel
    have HI := Lib.hid hI
    clear hI HR c0 c1 cl
    by_cases hkm : k < m
    · have hkl : k < L.length := by rw [HM.out]; exact hkm
      obtain ⟨x, hx⟩ : ∃ x, L[k]? = some x := ⟨_, List.getElem?_eq_getElem hkl⟩
      have hok := HGK.out k x hx
      have hge := HG.out k x hx
      have hkx := HMK.out k x hx
      have cg := get_v HI.out.ot x.1 hok
      rw [hge] at cg
      dsimp only at cg
      obtain ⟨g1, rfl, _, z0, z1, z2, _, _, _, hg1, hc⟩ := ky_cell HML.out HI.out.row hkx
      have hc1 : m ≤ c2 := by rw [← HM.out]; exact hc
      have hK0 : (0 : Int) ≤ (k : Int) := by omega
      have hK1 : (k : Int) < (m : Int) := by omega
      have HX := Lib.hid hx
      have HKX := Lib.hid hkx
      have hneq : ∀ w, (binOp .neq 36 (.agg #[.string x.1.t, .int .i64 x.1.i]) (.agg #[.string x.1.t, .int .i64 x.1.i])).run Try.prog w = .ok (.bool false) w := fun w => by
        rw [part_neq, beq_self]
        simp
      have hgd := fun (a b : Operand) w => part_guard .neq a b #[.string x.1.t, .int .i64 x.1.i] #[.string x.1.t, .int .i64 x.1.i] w
      clear hx hok hge hkx hc hkl
      go_wp2_with fail
      with_reducible refine cg.mono ?_
      rintro en w4 ⟨rfl, hb⟩
      have HI4 := Lib.hid (HI.out.later hb)
      clear hb cg z0 z1 z2 hg1 HI
      obtain ⟨g3, hA3, _, z0, z1, z2, _, _, _, hg1, _⟩ := ky_cell HML.out HI4.out.row HKX.out
      injection hA3 with hA3
      injection hA3 with e1
      subst e1
      obtain ⟨g4, rfl, _, y0, y1, y2, y3, _, hg2, hc⟩ := rd_cell rfl HI4.out.rd.row HX.out
      obtain ⟨c0, c1, cl⟩ := HI4.out.rd.cells
      rw [HM.out] at c1 hc
      go_wp2_with fail
      go_quiet (fail)
      have HI6 := Lib.hid (HI4.out.later (below_drewN (Below.refl _ w4) nq))
      go_wp2_with fail
      exact ⟨⟨k + 1, by go_num, hkm, HI6.out⟩, by simp [intOf]; omega⟩
    · have hkm' : ¬ (k : Int) < (m : Int) := by omega
      go_wp2_with fail
      go_ret
      exact ⟨rfl, HI.out.below⟩
end Go.Proofs.Ytlkhfgkgngcakaa
/- offsets: one call on both tables, by contracts: they answer alike. No condition. -/
namespace Go.Proofs.Ytlkhfgkgngcakaa
open Go.RowKit Go.WideAt Go.Lib
set_option linter.unusedVariables false
theorem p_commit {W0 W : World} {p g d : Nat} {room : Int} {F G : List KE} (h : Pr W0 p g d room F G W) (k : KY) (a : Int) :
    Calls Try.prog 13 #[.pointer (some ⟨p, 0, none⟩), .agg #[.string k.g, .string k.t, .int .i64 k.i], .int .i64 a] W (fun e w' => e = .returned (.int .i64 (coR room F k a)) ∧ Pr W0 p g d room (coS room F k a) G w' ∧ Off (fun i => i = g) W w') :=
  (commit_v h.ot k a).mono fun e w' ⟨he, hw⟩ => ⟨he, h.prog hw, hw.off⟩
theorem p_apply {W0 W : World} {p g d : Nat} {room : Int} {F G : List KE} (h : Pr W0 p g d room F G W) (r : Rec) (A : Option Addr) (c : Nat) (hR : RIn W r A c) :
    Calls Try.prog 17 #[.pointer (some ⟨p, 0, none⟩), .agg (recC r A c)] W (fun e w' => e = .returned (.int .i64 (apE room F r)) ∧ Pr W0 p g d room (apS room F r) G w' ∧ Off (fun i => i = g) W w') :=
  (apply_v h.ot r A c hR).mono fun e w' ⟨he, hw⟩ => ⟨he, h.prog hw, hw.off⟩
theorem p_forget {W0 W : World} {p g d : Nat} {room : Int} {F G : List KE} (h : Pr W0 p g d room F G W) (s : ByteArray) :
    Calls Try.prog 14 #[.pointer (some ⟨p, 0, none⟩), .string s] W (fun e w' => e = .returned (.int .i64 ((F.length : Int) - ((outG F s).length : Int))) ∧ Pr W0 p g d room (outG F s) G w' ∧ Off (fun i => i = g) W w') :=
  (forget_v h.ot s).mono fun e w' ⟨he, hw⟩ => ⟨he, h.prog hw, hw.off⟩
theorem FOk.drop {room : Int} {F : List KE} (h : FOk room F) (s : ByteArray) : FOk room (outT F s) := h.sub (fun e he => (List.mem_filter.1 he).1) (outT_len F s)
theorem p_drop {W0 W : World} {p g d : Nat} {room : Int} {F G : List KE} (h : Pr W0 p g d room F G W) (s : ByteArray) :
    Calls Try.prog 15 #[.pointer (some ⟨p, 0, none⟩), .string s] W (fun e w' => e = .returned (.int .i64 ((F.length : Int) - ((outT F s).length : Int))) ∧ Pr W0 p g d room (outT F s) G w' ∧ Off (fun i => i = g) W w') :=
  (drop_c p g room F s W h.ot.is h.ot.ok.many h.ot.ok.keys).mono fun e w' ⟨he, h1, h2⟩ => ⟨he, h.prog ⟨⟨h1, h.ot.hp, h.ot.hg, h.ot.ok.drop s⟩, h2⟩, h2⟩
theorem d_commit {W0 W : World} {p g d : Nat} {room : Int} {F G : List KE} (h : Pr W0 p g d room F G W) (k : KY) (a : Int) (hg : k.g.size ≤ 140737488351232) (ht : k.t.size ≤ 140737488351232) :
    Calls Try.prog 20 #[.pointer (some ⟨d, 0, none⟩), .string k.g, .agg #[.string k.t, .int .i64 k.i], .int .i64 a] W (fun e w' => e = .returned (.int .i64 (coR room G k a)) ∧ Pr W0 p g d room F (coS room G k a) w' ∧ KeepO badD W w') := by
  obtain ⟨L, A, c, h1, h2⟩ := h.rd
  exact (dcommit_c _ d c room L G A k a W h1 h2 h.ok h.below.size h.hd hg ht).mono fun e w' hw => ⟨hw.1, h.doc hw (h.ok.commit k a), hw.2.2.1⟩
theorem d_apply {W0 W : World} {p g d : Nat} {room : Int} {F G : List KE} (h : Pr W0 p g d room F G W) (r : Rec) (RA : Option Addr) (rc : Nat) (hR : RIn W r RA rc) :
    Calls Try.prog 24 #[.pointer (some ⟨d, 0, none⟩), .agg (recC r RA rc)] W (fun e w' => e = .returned (.int .i64 (apE room G r)) ∧ Pr W0 p g d room F (apS room G r) w' ∧ KeepO badD W w') := by
  obtain ⟨L, A, c, h1, h2⟩ := h.rd
  exact (dapply_c _ d c room L G A r RA rc W h1 h2 h.ok h.below.size h.hd hR).mono fun e w' hw => ⟨hw.1, h.doc hw (h.ok.apply r), hw.2.2.1⟩
theorem d_forget {W0 W : World} {p g d : Nat} {room : Int} {F G : List KE} (h : Pr W0 p g d room F G W) (s : ByteArray) :
    Calls Try.prog 22 #[.pointer (some ⟨d, 0, none⟩), .string s] W (fun e w' => e = .returned (.int .i64 ((G.length : Int) - ((outG G s).length : Int))) ∧ Pr W0 p g d room F (outG G s) w' ∧ KeepO badD W w') := by
  obtain ⟨L, A, c, h1, h2⟩ := h.rd
  have hl : L.length ≤ 1000000 := by rw [h2.len]; exact h.ok.many
  refine (dforget_c _ d c room L A s W h1 hl h.below.size h.hd).mono fun e w' hw => ?_
  have hf := h2.filter (fun e => !(decide (e.1.g = s)))
  obtain ⟨A', c', h3⟩ := hw.2.1
  refine ⟨?_, h.doc (v := .int .i64 0) (e := .returned (.int .i64 0)) ⟨rfl, ⟨_, A', c', h3, hf⟩, hw.2.2.1, hw.2.2.2⟩ (h.ok.forget s), hw.2.2.1⟩
  rw [hw.1, hf.len, h2.len]
  rfl
theorem d_drop {W0 W : World} {p g d : Nat} {room : Int} {F G : List KE} (h : Pr W0 p g d room F G W) (s : ByteArray) :
    Calls Try.prog 23 #[.pointer (some ⟨d, 0, none⟩), .string s] W (fun e w' => e = .returned (.int .i64 ((G.length : Int) - ((outT G s).length : Int))) ∧ Pr W0 p g d room F (outT G s) w' ∧ KeepO badD W w') := by
  obtain ⟨L, A, c, h1, h2⟩ := h.rd
  have hl : L.length ≤ 1000000 := by rw [h2.len]; exact h.ok.many
  refine (ddrop_c _ d c room L A s W h1 hl h.below.size h.hd).mono fun e w' hw => ?_
  have hf := h2.filter (fun e => !(decide (e.1.t = s)))
  obtain ⟨A', c', h3⟩ := hw.2.1
  refine ⟨?_, h.doc (v := .int .i64 0) (e := .returned (.int .i64 0)) ⟨rfl, ⟨_, A', c', h3, hf⟩, hw.2.2.1, hw.2.2.2⟩ (h.ok.drop s), hw.2.2.1⟩
  rw [hw.1, hf.len, h2.len]
  rfl
theorem d_get {W0 W : World} {p g d : Nat} {room : Int} {F G : List KE} (h : Pr W0 p g d room F G W) (k : KY) (hk : KyOk k) :
    Calls Try.prog 21 #[.pointer (some ⟨d, 0, none⟩), .string k.g, .agg #[.string k.t, .int .i64 k.i]] W (fun e w' => e = .returned (.tuple #[.int .i64 (geR G k).1, .bool (geR G k).2]) ∧ Below W.heap.size W w') := by
  obtain ⟨L, A, c, h1, h2⟩ := h.rd
  have hl : L.length ≤ 1000000 := by rw [h2.len]; exact h.ok.many
  have := dget_c _ d c room L A k W h1 hl
  rw [h2.get h.ok hk] at this
  exact this
/-- While step goes on. -/
structure StI (W0 : World) (p g d : Nat) (room : Int) (F G : List KE) (x : OO) (b q : Nat) (w : World) : Prop where
  pr : Pr W0 p g d room F G w
  ob : Box w b 38 #[.int .i64 x.do_, .string x.k.g, .string x.k.t, .int .i64 x.k.i, .int .i64 x.at_, .int .i64 x.r.place, .int .i64 x.r.time, .bool x.r.bare, .string x.r.key, .bool x.r.gone, .string x.r.value, .slice x.A x.r.heads.length x.c]
  kb : Box w q 45 #[.string x.k.g, .string x.k.t, .int .i64 x.k.i]
theorem StI.later {W0 w w' : World} {p g d b q : Nat} {room : Int} {F G : List KE} {x : OO} (h : StI W0 p g d room F G x b q w) (hb : Below w.heap.size w w') : StI W0 p g d room F G x b q w' := ⟨h.pr.later hb, h.ob.later hb, h.kb.later hb⟩
theorem StI.drew {W0 w : World} {p g d b q : Nat} {room : Int} {F G : List KE} {x : OO} (h : StI W0 p g d room F G x b q w) : StI W0 p g d room F G x b q w.drew := h.later (Below.refl _ _).drew
theorem StI.prog {W0 w w' : World} {p g d b q : Nat} {room : Int} {F G K : List KE} {x : OO} (h : StI W0 p g d room F G x b q w) (hp : Pr W0 p g d room K G w') (ho : Off (fun i => i = g) w w') : StI W0 p g d room K G x b q w' :=
  ⟨hp, h.ob.off ho (box_ne_map h.ob h.pr.ot.is.map), h.kb.off ho (box_ne_map h.kb h.pr.ot.is.map)⟩
theorem StI.doc {W0 w w' : World} {p g d b q : Nat} {room : Int} {F G K : List KE} {x : OO} (h : StI W0 p g d room F G x b q w) (hp : Pr W0 p g d room F K w') (hk : KeepO badD w w') : StI W0 p g d room F K x b q w' :=
  ⟨hp, hk.box h.ob (by decide) (by decide), hk.box h.kb (by decide) (by decide)⟩
theorem StI.facts {W0 w : World} {p g d b q : Nat} {room : Int} {F G : List KE} {x : OO} (h : StI W0 p g d room F G x b q w) : w.cell? ⟨b, 0, none⟩ = some (.int .i64 x.do_) ∧ w.cell? ⟨b, 1, none⟩ = some (.string x.k.g) ∧ w.cell? ⟨b, 2, none⟩ = some (.string x.k.t) ∧ w.cell? ⟨b, 3, none⟩ = some (.int .i64 x.k.i) ∧ w.cell? ⟨b, 4, none⟩ = some (.int .i64 x.at_) ∧ w.cell? ⟨b, 5, none⟩ = some (.int .i64 x.r.place) ∧ w.cell? ⟨b, 6, none⟩ = some (.int .i64 x.r.time) ∧ w.cell? ⟨b, 7, none⟩ = some (.bool x.r.bare) ∧ w.cell? ⟨b, 8, none⟩ = some (.string x.r.key) ∧ w.cell? ⟨b, 9, none⟩ = some (.bool x.r.gone) ∧ w.cell? ⟨b, 10, none⟩ = some (.string x.r.value) ∧ w.cell? ⟨b, 11, none⟩ = some (.slice x.A x.r.heads.length x.c) ∧ w.cell? ⟨q, 0, none⟩ = some (.string x.k.g) ∧ w.cell? ⟨q, 1, none⟩ = some (.string x.k.t) ∧ w.cell? ⟨q, 2, none⟩ = some (.int .i64 x.k.i) :=
  ⟨(h.ob.cell 0).trans rfl, (h.ob.cell 1).trans rfl, (h.ob.cell 2).trans rfl, (h.ob.cell 3).trans rfl, (h.ob.cell 4).trans rfl, (h.ob.cell 5).trans rfl, (h.ob.cell 6).trans rfl, (h.ob.cell 7).trans rfl, (h.ob.cell 8).trans rfl, (h.ob.cell 9).trans rfl, (h.ob.cell 10).trans rfl, (h.ob.cell 11).trans rfl, (h.kb.cell 0).trans rfl, (h.kb.cell 1).trans rfl, (h.kb.cell 2).trans rfl⟩
theorem beq_same (n : Int) : (n == n) = true := by simp
set_option maxHeartbeats 8000000 in
set_option maxRecDepth 100000 in
theorem step0 {W0 W : World} {p g d : Nat} {room : Int} {F : List KE} {x : OO} (h : Pr W0 p g d room F F W) (hx : OOk W0 x) (hd : x.do_ = 0) :
    Calls Try.prog 10 #[.pointer (some ⟨p, 0, none⟩), .pointer (some ⟨d, 0, none⟩), .agg #[.int .i64 x.do_, .string x.k.g, .string x.k.t, .int .i64 x.k.i, .int .i64 x.at_, .int .i64 x.r.place, .int .i64 x.r.time, .bool x.r.bare, .string x.r.key, .bool x.r.gone, .string x.r.value, .slice x.A x.r.heads.length x.c]] W (fun e w' => e = .returned (.bool true) ∧ ∃ K, Pr W0 p g d room K K w') := by
  have hky := hx.ky
  have hb0 := Box.new W 38 #[.int .i64 x.do_, .string x.k.g, .string x.k.t, .int .i64 x.k.i, .int .i64 x.at_, .int .i64 x.r.place, .int .i64 x.r.time, .bool x.r.bare, .string x.r.key, .bool x.r.gone, .string x.r.value, .slice x.A x.r.heads.length x.c]
  have hBA := (Below.refl W.heap.size W).alloc (Nat.le_refl _) (.cells #[.int .i64 x.do_, .string x.k.g, .string x.k.t, .int .i64 x.k.i, .int .i64 x.at_, .int .i64 x.r.place, .int .i64 x.r.time, .bool x.r.bare, .string x.r.key, .bool x.r.gone, .string x.r.value, .slice x.A x.r.heads.length x.c] 38)
  have hBB := (Below.refl (W.alloc (.cells #[.int .i64 x.do_, .string x.k.g, .string x.k.t, .int .i64 x.k.i, .int .i64 x.at_, .int .i64 x.r.place, .int .i64 x.r.time, .bool x.r.bare, .string x.r.key, .bool x.r.gone, .string x.r.value, .slice x.A x.r.heads.length x.c] 38)).heap.size (W.alloc (.cells #[.int .i64 x.do_, .string x.k.g, .string x.k.t, .int .i64 x.k.i, .int .i64 x.at_, .int .i64 x.r.place, .int .i64 x.r.time, .bool x.r.bare, .string x.r.key, .bool x.r.gone, .string x.r.value, .slice x.A x.r.heads.length x.c] 38))).alloc (Nat.le_refl _) (.cells #[.string x.k.g, .string x.k.t, .int .i64 x.k.i] 45)
  have hb1 := Box.new (W.alloc (.cells #[.int .i64 x.do_, .string x.k.g, .string x.k.t, .int .i64 x.k.i, .int .i64 x.at_, .int .i64 x.r.place, .int .i64 x.r.time, .bool x.r.bare, .string x.r.key, .bool x.r.gone, .string x.r.value, .slice x.A x.r.heads.length x.c] 38)) 45 #[.string x.k.g, .string x.k.t, .int .i64 x.k.i]
  rw [World.size_alloc] at hb1
  have HS := Lib.hid (show StI W0 p g d room F F x W.heap.size (W.heap.size + 1) _ from ⟨(h.later hBA).later hBB, hb0.later hBB, hb1⟩)
  have HX := Lib.hid hx
  obtain ⟨a0, a1, a2, a3, a4, a5, a6, a7, a8, a9, a10, a11⟩ : (W.alloc (.cells #[.int .i64 x.do_, .string x.k.g, .string x.k.t, .int .i64 x.k.i, .int .i64 x.at_, .int .i64 x.r.place, .int .i64 x.r.time, .bool x.r.bare, .string x.r.key, .bool x.r.gone, .string x.r.value, .slice x.A x.r.heads.length x.c] 38)).cell? ⟨W.heap.size, 0, none⟩ = some (.int .i64 x.do_) ∧ (W.alloc (.cells #[.int .i64 x.do_, .string x.k.g, .string x.k.t, .int .i64 x.k.i, .int .i64 x.at_, .int .i64 x.r.place, .int .i64 x.r.time, .bool x.r.bare, .string x.r.key, .bool x.r.gone, .string x.r.value, .slice x.A x.r.heads.length x.c] 38)).cell? ⟨W.heap.size, 1, none⟩ = some (.string x.k.g) ∧ (W.alloc (.cells #[.int .i64 x.do_, .string x.k.g, .string x.k.t, .int .i64 x.k.i, .int .i64 x.at_, .int .i64 x.r.place, .int .i64 x.r.time, .bool x.r.bare, .string x.r.key, .bool x.r.gone, .string x.r.value, .slice x.A x.r.heads.length x.c] 38)).cell? ⟨W.heap.size, 2, none⟩ = some (.string x.k.t) ∧ (W.alloc (.cells #[.int .i64 x.do_, .string x.k.g, .string x.k.t, .int .i64 x.k.i, .int .i64 x.at_, .int .i64 x.r.place, .int .i64 x.r.time, .bool x.r.bare, .string x.r.key, .bool x.r.gone, .string x.r.value, .slice x.A x.r.heads.length x.c] 38)).cell? ⟨W.heap.size, 3, none⟩ = some (.int .i64 x.k.i) ∧ (W.alloc (.cells #[.int .i64 x.do_, .string x.k.g, .string x.k.t, .int .i64 x.k.i, .int .i64 x.at_, .int .i64 x.r.place, .int .i64 x.r.time, .bool x.r.bare, .string x.r.key, .bool x.r.gone, .string x.r.value, .slice x.A x.r.heads.length x.c] 38)).cell? ⟨W.heap.size, 4, none⟩ = some (.int .i64 x.at_) ∧ (W.alloc (.cells #[.int .i64 x.do_, .string x.k.g, .string x.k.t, .int .i64 x.k.i, .int .i64 x.at_, .int .i64 x.r.place, .int .i64 x.r.time, .bool x.r.bare, .string x.r.key, .bool x.r.gone, .string x.r.value, .slice x.A x.r.heads.length x.c] 38)).cell? ⟨W.heap.size, 5, none⟩ = some (.int .i64 x.r.place) ∧ (W.alloc (.cells #[.int .i64 x.do_, .string x.k.g, .string x.k.t, .int .i64 x.k.i, .int .i64 x.at_, .int .i64 x.r.place, .int .i64 x.r.time, .bool x.r.bare, .string x.r.key, .bool x.r.gone, .string x.r.value, .slice x.A x.r.heads.length x.c] 38)).cell? ⟨W.heap.size, 6, none⟩ = some (.int .i64 x.r.time) ∧ (W.alloc (.cells #[.int .i64 x.do_, .string x.k.g, .string x.k.t, .int .i64 x.k.i, .int .i64 x.at_, .int .i64 x.r.place, .int .i64 x.r.time, .bool x.r.bare, .string x.r.key, .bool x.r.gone, .string x.r.value, .slice x.A x.r.heads.length x.c] 38)).cell? ⟨W.heap.size, 7, none⟩ = some (.bool x.r.bare) ∧ (W.alloc (.cells #[.int .i64 x.do_, .string x.k.g, .string x.k.t, .int .i64 x.k.i, .int .i64 x.at_, .int .i64 x.r.place, .int .i64 x.r.time, .bool x.r.bare, .string x.r.key, .bool x.r.gone, .string x.r.value, .slice x.A x.r.heads.length x.c] 38)).cell? ⟨W.heap.size, 8, none⟩ = some (.string x.r.key) ∧ (W.alloc (.cells #[.int .i64 x.do_, .string x.k.g, .string x.k.t, .int .i64 x.k.i, .int .i64 x.at_, .int .i64 x.r.place, .int .i64 x.r.time, .bool x.r.bare, .string x.r.key, .bool x.r.gone, .string x.r.value, .slice x.A x.r.heads.length x.c] 38)).cell? ⟨W.heap.size, 9, none⟩ = some (.bool x.r.gone) ∧ (W.alloc (.cells #[.int .i64 x.do_, .string x.k.g, .string x.k.t, .int .i64 x.k.i, .int .i64 x.at_, .int .i64 x.r.place, .int .i64 x.r.time, .bool x.r.bare, .string x.r.key, .bool x.r.gone, .string x.r.value, .slice x.A x.r.heads.length x.c] 38)).cell? ⟨W.heap.size, 10, none⟩ = some (.string x.r.value) ∧ (W.alloc (.cells #[.int .i64 x.do_, .string x.k.g, .string x.k.t, .int .i64 x.k.i, .int .i64 x.at_, .int .i64 x.r.place, .int .i64 x.r.time, .bool x.r.bare, .string x.r.key, .bool x.r.gone, .string x.r.value, .slice x.A x.r.heads.length x.c] 38)).cell? ⟨W.heap.size, 11, none⟩ = some (.slice x.A x.r.heads.length x.c) := ⟨(hb0.cell 0).trans rfl, (hb0.cell 1).trans rfl, (hb0.cell 2).trans rfl, (hb0.cell 3).trans rfl, (hb0.cell 4).trans rfl, (hb0.cell 5).trans rfl, (hb0.cell 6).trans rfl, (hb0.cell 7).trans rfl, (hb0.cell 8).trans rfl, (hb0.cell 9).trans rfl, (hb0.cell 10).trans rfl, (hb0.cell 11).trans rfl⟩
  have hbl := hb0.lt
  obtain ⟨y0, y1, y2, yl, _, _, _⟩ := ky3 hb1
  clear hb0 hBA hBB hb1 h
  rw [hd] at *
  go_enter Try.func10, Try.ntmps10
  go_wp2_with fail
  generalize ((W.alloc (.cells #[.int .i64 x.do_, .string x.k.g, .string x.k.t, .int .i64 x.k.i, .int .i64 x.at_, .int .i64 x.r.place, .int .i64 x.r.time, .bool x.r.bare, .string x.r.key, .bool x.r.gone, .string x.r.value, .slice x.A x.r.heads.length x.c] 38)).alloc (.cells #[.string x.k.g, .string x.k.t, .int .i64 x.k.i] 45)) = w0 at *
  generalize W.heap.size + 1 = q at *
  generalize W.heap.size = b at *
  clear a0 a1 a2 a3 a4 a5 a6 a7 a8 a9 a10 a11 hbl y0 y1 y2 yl hx
  have HS0 := Lib.hid HS.out.drew
  have hS0 := HS0.out.facts
  clear HS
  refine wp_region_held_drew (S := (fun w => w.cell? ⟨b, 0, none⟩ = some (.int .i64 x.do_) ∧ w.cell? ⟨b, 1, none⟩ = some (.string x.k.g) ∧ w.cell? ⟨b, 2, none⟩ = some (.string x.k.t) ∧ w.cell? ⟨b, 3, none⟩ = some (.int .i64 x.k.i) ∧ w.cell? ⟨b, 4, none⟩ = some (.int .i64 x.at_) ∧ w.cell? ⟨b, 5, none⟩ = some (.int .i64 x.r.place) ∧ w.cell? ⟨b, 6, none⟩ = some (.int .i64 x.r.time) ∧ w.cell? ⟨b, 7, none⟩ = some (.bool x.r.bare) ∧ w.cell? ⟨b, 8, none⟩ = some (.string x.r.key) ∧ w.cell? ⟨b, 9, none⟩ = some (.bool x.r.gone) ∧ w.cell? ⟨b, 10, none⟩ = some (.string x.r.value) ∧ w.cell? ⟨b, 11, none⟩ = some (.slice x.A x.r.heads.length x.c) ∧ w.cell? ⟨q, 0, none⟩ = some (.string x.k.g) ∧ w.cell? ⟨q, 1, none⟩ = some (.string x.k.t) ∧ w.cell? ⟨q, 2, none⟩ = some (.int .i64 x.k.i))) (by kernel_rfl) hS0 (fun hHeld => ?_)
  refine takeW (i := 0) (v := ?v1) rfl (by kernel_rfl) (by kernel_rfl) (by kernel_rfl) (fun _ _ _ h => h) (by kernel_rfl) hHeld ?hy1 ?rest1
  case hy1 => (intro w hSw; (try dsimp only at hSw); go_simp; (try with_reducible rfl))
  try simp only [Act.put, List.setIfInBounds_toArray, List.set_cons_zero, List.set_cons_succ]
  refine takeW (i := 1) (v := ?v2) rfl (by kernel_rfl) (by kernel_rfl) (by kernel_rfl) (fun _ _ _ h => h) (by kernel_rfl) hHeld ?hy2 ?rest2
  case hy2 => (intro w hSw; (try dsimp only at hSw); go_simp; (try with_reducible rfl))
  try simp only [Act.put, List.setIfInBounds_toArray, List.set_cons_zero, List.set_cons_succ]
  refine takeW (i := 2) (v := ?v3) rfl (by kernel_rfl) (by kernel_rfl) (by kernel_rfl) (fun _ _ _ h => h) (by kernel_rfl) hHeld ?hy3 ?rest3
  case hy3 => (intro w hSw; (try dsimp only at hSw); go_simp; (try with_reducible rfl))
  try simp only [Act.put, List.setIfInBounds_toArray, List.set_cons_zero, List.set_cons_succ]
  refine takeW (i := 3) (v := ?v4) rfl (by kernel_rfl) (by kernel_rfl) (by kernel_rfl) (fun _ _ _ h => h) (by kernel_rfl) hHeld ?hy4 ?rest4
  case hy4 => (intro w hSw; (try dsimp only at hSw); go_simp; (try with_reducible rfl))
  try simp only [Act.put, List.setIfInBounds_toArray, List.set_cons_zero, List.set_cons_succ]
  refine takeW (i := 5) (v := ?v5) rfl (by kernel_rfl) (by kernel_rfl) (by kernel_rfl) (fun _ _ _ h => h) (by kernel_rfl) hHeld ?hy5 ?rest5
  case hy5 => (intro w hSw; (try dsimp only at hSw); go_simp; (try with_reducible rfl))
  try simp only [Act.put, List.setIfInBounds_toArray, List.set_cons_zero, List.set_cons_succ]
  refine takeW (i := 6) (v := ?v6) rfl (by kernel_rfl) (by kernel_rfl) (by kernel_rfl) (fun _ _ _ h => h) (by kernel_rfl) hHeld ?hy6 ?rest6
  case hy6 => (intro w hSw; (try dsimp only at hSw); go_simp; (try with_reducible rfl))
  try simp only [Act.put, List.setIfInBounds_toArray, List.set_cons_zero, List.set_cons_succ]
  refine takeW (i := 7) (v := ?v7) rfl (by kernel_rfl) (by kernel_rfl) (by kernel_rfl) (fun _ _ _ h => h) (by kernel_rfl) hHeld ?hy7 ?rest7
  case hy7 => (intro w hSw; (try dsimp only at hSw); go_simp; (try with_reducible rfl))
  try simp only [Act.put, List.setIfInBounds_toArray, List.set_cons_zero, List.set_cons_succ]
  refine takeW (i := 8) (v := ?v8) rfl (by kernel_rfl) (by kernel_rfl) (by kernel_rfl) (fun _ _ _ h => h) (by kernel_rfl) hHeld ?hy8 ?rest8
  case hy8 => (intro w hSw; (try dsimp only at hSw); go_simp; (try with_reducible rfl))
  try simp only [Act.put, List.setIfInBounds_toArray, List.set_cons_zero, List.set_cons_succ]
  refine takeW (i := 9) (v := ?v9) rfl (by kernel_rfl) (by kernel_rfl) (by kernel_rfl) (fun _ _ _ h => h) (by kernel_rfl) hHeld ?hy9 ?rest9
  case hy9 => (intro w hSw; (try dsimp only at hSw); go_simp; (try with_reducible rfl))
  try simp only [Act.put, List.setIfInBounds_toArray, List.set_cons_zero, List.set_cons_succ]
  refine takeW (i := 10) (v := ?v10) rfl (by kernel_rfl) (by kernel_rfl) (by kernel_rfl) (fun _ _ _ h => h) (by kernel_rfl) hHeld ?hy10 ?rest10
  case hy10 => (intro w hSw; (try dsimp only at hSw); go_simp; (try with_reducible rfl))
  try simp only [Act.put, List.setIfInBounds_toArray, List.set_cons_zero, List.set_cons_succ]
  refine takeW (i := 11) (v := ?v11) rfl (by kernel_rfl) (by kernel_rfl) (by kernel_rfl) (fun _ _ _ h => h) (by kernel_rfl) hHeld ?hy11 ?rest11
  case hy11 => (intro w hSw; (try dsimp only at hSw); go_simp; (try with_reducible rfl))
  try simp only [Act.put, List.setIfInBounds_toArray, List.set_cons_zero, List.set_cons_succ]
  refine wpAnyH_ready (rs := [4]) (by kernel_rfl) (by simp) ?_
  refine consL rfl (by kernel_rfl) (fun K hK => ?_) AllReadyH.nil
  go_simp
  with_reducible refine (p_commit HS0.out.pr x.k x.at_).mono ?_
  rintro en w1 ⟨rfl, hp1, ho1⟩
  have H1 := Lib.hid (HS0.out.prog hp1 ho1)
  clear hp1 ho1
  refine hK.out _ _ (H1.out.facts) (fun hHeld => ?_)
  clear hK K
  try simp only [Act.put, List.setIfInBounds_toArray, List.set_cons_zero, List.set_cons_succ]
  refine wpAnyH_ready (rs := [12]) (by kernel_rfl) (by simp) ?_
  refine consL rfl (by kernel_rfl) (fun K hK => ?_) AllReadyH.nil
  go_simp
  with_reducible refine (d_commit H1.out.pr x.k x.at_ HX.out.g HX.out.t).mono ?_
  rintro en w2 ⟨rfl, hp2, hk2⟩
  have H2 := Lib.hid (H1.out.doc hp2 hk2)
  clear hp2 hk2
  refine hK.out _ _ (H2.out.facts) (fun hHeld => ?_)
  clear hK K
  try simp only [Act.put, List.setIfInBounds_toArray, List.set_cons_zero, List.set_cons_succ]
  refine takeW (i := 13) (v := ?v12) rfl (by kernel_rfl) (by kernel_rfl) (by kernel_rfl) (fun _ _ _ h => h) (by kernel_rfl) hHeld ?hy12 ?rest12
  case hy12 => (intro w hSw; (try dsimp only at hSw); go_simp; (try with_reducible rfl))
  try simp only [Act.put, List.setIfInBounds_toArray, List.set_cons_zero, List.set_cons_succ]
  refine takeW (i := 14) (v := ?v13) rfl (by kernel_rfl) (by kernel_rfl) (by kernel_rfl) (fun _ _ _ h => h) (by kernel_rfl) hHeld ?hy13 ?rest13
  case hy13 => (intro w hSw; (try dsimp only at hSw); go_simp; (try with_reducible rfl))
  try simp only [Act.put, List.setIfInBounds_toArray, List.set_cons_zero, List.set_cons_succ]
  refine wpAnyH_done (by kernel_rfl) ?_ _
  go_wp2_with fail
  go_ret
  exact ⟨rfl, _, H2.out.pr⟩
set_option maxHeartbeats 8000000 in
set_option maxRecDepth 100000 in
theorem step1 {W0 W : World} {p g d : Nat} {room : Int} {F : List KE} {x : OO} (h : Pr W0 p g d room F F W) (hx : OOk W0 x) (hd : x.do_ = 1) :
    Calls Try.prog 10 #[.pointer (some ⟨p, 0, none⟩), .pointer (some ⟨d, 0, none⟩), .agg #[.int .i64 x.do_, .string x.k.g, .string x.k.t, .int .i64 x.k.i, .int .i64 x.at_, .int .i64 x.r.place, .int .i64 x.r.time, .bool x.r.bare, .string x.r.key, .bool x.r.gone, .string x.r.value, .slice x.A x.r.heads.length x.c]] W (fun e w' => e = .returned (.bool true) ∧ ∃ K, Pr W0 p g d room K K w') := by
  have hky := hx.ky
  have hb0 := Box.new W 38 #[.int .i64 x.do_, .string x.k.g, .string x.k.t, .int .i64 x.k.i, .int .i64 x.at_, .int .i64 x.r.place, .int .i64 x.r.time, .bool x.r.bare, .string x.r.key, .bool x.r.gone, .string x.r.value, .slice x.A x.r.heads.length x.c]
  have hBA := (Below.refl W.heap.size W).alloc (Nat.le_refl _) (.cells #[.int .i64 x.do_, .string x.k.g, .string x.k.t, .int .i64 x.k.i, .int .i64 x.at_, .int .i64 x.r.place, .int .i64 x.r.time, .bool x.r.bare, .string x.r.key, .bool x.r.gone, .string x.r.value, .slice x.A x.r.heads.length x.c] 38)
  have hBB := (Below.refl (W.alloc (.cells #[.int .i64 x.do_, .string x.k.g, .string x.k.t, .int .i64 x.k.i, .int .i64 x.at_, .int .i64 x.r.place, .int .i64 x.r.time, .bool x.r.bare, .string x.r.key, .bool x.r.gone, .string x.r.value, .slice x.A x.r.heads.length x.c] 38)).heap.size (W.alloc (.cells #[.int .i64 x.do_, .string x.k.g, .string x.k.t, .int .i64 x.k.i, .int .i64 x.at_, .int .i64 x.r.place, .int .i64 x.r.time, .bool x.r.bare, .string x.r.key, .bool x.r.gone, .string x.r.value, .slice x.A x.r.heads.length x.c] 38))).alloc (Nat.le_refl _) (.cells #[.string x.k.g, .string x.k.t, .int .i64 x.k.i] 45)
  have hb1 := Box.new (W.alloc (.cells #[.int .i64 x.do_, .string x.k.g, .string x.k.t, .int .i64 x.k.i, .int .i64 x.at_, .int .i64 x.r.place, .int .i64 x.r.time, .bool x.r.bare, .string x.r.key, .bool x.r.gone, .string x.r.value, .slice x.A x.r.heads.length x.c] 38)) 45 #[.string x.k.g, .string x.k.t, .int .i64 x.k.i]
  rw [World.size_alloc] at hb1
  have HS := Lib.hid (show StI W0 p g d room F F x W.heap.size (W.heap.size + 1) _ from ⟨(h.later hBA).later hBB, hb0.later hBB, hb1⟩)
  have HX := Lib.hid hx
  obtain ⟨a0, a1, a2, a3, a4, a5, a6, a7, a8, a9, a10, a11⟩ : (W.alloc (.cells #[.int .i64 x.do_, .string x.k.g, .string x.k.t, .int .i64 x.k.i, .int .i64 x.at_, .int .i64 x.r.place, .int .i64 x.r.time, .bool x.r.bare, .string x.r.key, .bool x.r.gone, .string x.r.value, .slice x.A x.r.heads.length x.c] 38)).cell? ⟨W.heap.size, 0, none⟩ = some (.int .i64 x.do_) ∧ (W.alloc (.cells #[.int .i64 x.do_, .string x.k.g, .string x.k.t, .int .i64 x.k.i, .int .i64 x.at_, .int .i64 x.r.place, .int .i64 x.r.time, .bool x.r.bare, .string x.r.key, .bool x.r.gone, .string x.r.value, .slice x.A x.r.heads.length x.c] 38)).cell? ⟨W.heap.size, 1, none⟩ = some (.string x.k.g) ∧ (W.alloc (.cells #[.int .i64 x.do_, .string x.k.g, .string x.k.t, .int .i64 x.k.i, .int .i64 x.at_, .int .i64 x.r.place, .int .i64 x.r.time, .bool x.r.bare, .string x.r.key, .bool x.r.gone, .string x.r.value, .slice x.A x.r.heads.length x.c] 38)).cell? ⟨W.heap.size, 2, none⟩ = some (.string x.k.t) ∧ (W.alloc (.cells #[.int .i64 x.do_, .string x.k.g, .string x.k.t, .int .i64 x.k.i, .int .i64 x.at_, .int .i64 x.r.place, .int .i64 x.r.time, .bool x.r.bare, .string x.r.key, .bool x.r.gone, .string x.r.value, .slice x.A x.r.heads.length x.c] 38)).cell? ⟨W.heap.size, 3, none⟩ = some (.int .i64 x.k.i) ∧ (W.alloc (.cells #[.int .i64 x.do_, .string x.k.g, .string x.k.t, .int .i64 x.k.i, .int .i64 x.at_, .int .i64 x.r.place, .int .i64 x.r.time, .bool x.r.bare, .string x.r.key, .bool x.r.gone, .string x.r.value, .slice x.A x.r.heads.length x.c] 38)).cell? ⟨W.heap.size, 4, none⟩ = some (.int .i64 x.at_) ∧ (W.alloc (.cells #[.int .i64 x.do_, .string x.k.g, .string x.k.t, .int .i64 x.k.i, .int .i64 x.at_, .int .i64 x.r.place, .int .i64 x.r.time, .bool x.r.bare, .string x.r.key, .bool x.r.gone, .string x.r.value, .slice x.A x.r.heads.length x.c] 38)).cell? ⟨W.heap.size, 5, none⟩ = some (.int .i64 x.r.place) ∧ (W.alloc (.cells #[.int .i64 x.do_, .string x.k.g, .string x.k.t, .int .i64 x.k.i, .int .i64 x.at_, .int .i64 x.r.place, .int .i64 x.r.time, .bool x.r.bare, .string x.r.key, .bool x.r.gone, .string x.r.value, .slice x.A x.r.heads.length x.c] 38)).cell? ⟨W.heap.size, 6, none⟩ = some (.int .i64 x.r.time) ∧ (W.alloc (.cells #[.int .i64 x.do_, .string x.k.g, .string x.k.t, .int .i64 x.k.i, .int .i64 x.at_, .int .i64 x.r.place, .int .i64 x.r.time, .bool x.r.bare, .string x.r.key, .bool x.r.gone, .string x.r.value, .slice x.A x.r.heads.length x.c] 38)).cell? ⟨W.heap.size, 7, none⟩ = some (.bool x.r.bare) ∧ (W.alloc (.cells #[.int .i64 x.do_, .string x.k.g, .string x.k.t, .int .i64 x.k.i, .int .i64 x.at_, .int .i64 x.r.place, .int .i64 x.r.time, .bool x.r.bare, .string x.r.key, .bool x.r.gone, .string x.r.value, .slice x.A x.r.heads.length x.c] 38)).cell? ⟨W.heap.size, 8, none⟩ = some (.string x.r.key) ∧ (W.alloc (.cells #[.int .i64 x.do_, .string x.k.g, .string x.k.t, .int .i64 x.k.i, .int .i64 x.at_, .int .i64 x.r.place, .int .i64 x.r.time, .bool x.r.bare, .string x.r.key, .bool x.r.gone, .string x.r.value, .slice x.A x.r.heads.length x.c] 38)).cell? ⟨W.heap.size, 9, none⟩ = some (.bool x.r.gone) ∧ (W.alloc (.cells #[.int .i64 x.do_, .string x.k.g, .string x.k.t, .int .i64 x.k.i, .int .i64 x.at_, .int .i64 x.r.place, .int .i64 x.r.time, .bool x.r.bare, .string x.r.key, .bool x.r.gone, .string x.r.value, .slice x.A x.r.heads.length x.c] 38)).cell? ⟨W.heap.size, 10, none⟩ = some (.string x.r.value) ∧ (W.alloc (.cells #[.int .i64 x.do_, .string x.k.g, .string x.k.t, .int .i64 x.k.i, .int .i64 x.at_, .int .i64 x.r.place, .int .i64 x.r.time, .bool x.r.bare, .string x.r.key, .bool x.r.gone, .string x.r.value, .slice x.A x.r.heads.length x.c] 38)).cell? ⟨W.heap.size, 11, none⟩ = some (.slice x.A x.r.heads.length x.c) := ⟨(hb0.cell 0).trans rfl, (hb0.cell 1).trans rfl, (hb0.cell 2).trans rfl, (hb0.cell 3).trans rfl, (hb0.cell 4).trans rfl, (hb0.cell 5).trans rfl, (hb0.cell 6).trans rfl, (hb0.cell 7).trans rfl, (hb0.cell 8).trans rfl, (hb0.cell 9).trans rfl, (hb0.cell 10).trans rfl, (hb0.cell 11).trans rfl⟩
  have hbl := hb0.lt
  obtain ⟨y0, y1, y2, yl, _, _, _⟩ := ky3 hb1
  clear hb0 hBA hBB hb1 h
  rw [hd] at *
  go_enter Try.func10, Try.ntmps10
  go_wp2_with fail
  generalize ((W.alloc (.cells #[.int .i64 x.do_, .string x.k.g, .string x.k.t, .int .i64 x.k.i, .int .i64 x.at_, .int .i64 x.r.place, .int .i64 x.r.time, .bool x.r.bare, .string x.r.key, .bool x.r.gone, .string x.r.value, .slice x.A x.r.heads.length x.c] 38)).alloc (.cells #[.string x.k.g, .string x.k.t, .int .i64 x.k.i] 45)) = w0 at *
  generalize W.heap.size + 1 = q at *
  generalize W.heap.size = b at *
  clear a0 a1 a2 a3 a4 a5 a6 a7 a8 a9 a10 a11 hbl y0 y1 y2 yl hx
  have c1 := get_v HS.out.pr.ot x.k hky
  with_reducible refine c1.mono ?_
  rintro en w1 ⟨rfl, hb⟩
  have H1 := Lib.hid (HS.out.later hb)
  clear hb c1 HS
  obtain ⟨a0, a1, a2, a3, a4, a5, a6, a7, a8, a9, a10, a11, y0, y1, y2⟩ := H1.out.facts
  have hbl := H1.out.ob.lt
  have hql := H1.out.kb.lt
  have c1 := d_get H1.out.pr x.k hky
  go_wp2_with fail
  with_reducible refine c1.mono ?_
  rintro en w2 ⟨rfl, hb⟩
  have H2 := Lib.hid (H1.out.later hb)
  clear hb c1 H1 a0 a1 a2 a3 a4 a5 a6 a7 a8 a9 a10 a11 hbl y0 y1 y2 hql
  generalize geR F x.k = rv at *
  obtain ⟨va, ba⟩ := rv
  have hv := beq_same va
  cases ba
  · go_wp2_with fail
    go_ret
    exact ⟨rfl, _, H2.out.pr⟩
  · go_wp2_with fail
    go_ret
    exact ⟨rfl, _, H2.out.pr⟩
set_option maxHeartbeats 8000000 in
set_option maxRecDepth 100000 in
theorem step2 {W0 W : World} {p g d : Nat} {room : Int} {F : List KE} {x : OO} (h : Pr W0 p g d room F F W) (hx : OOk W0 x) (hd : x.do_ = 2) :
    Calls Try.prog 10 #[.pointer (some ⟨p, 0, none⟩), .pointer (some ⟨d, 0, none⟩), .agg #[.int .i64 x.do_, .string x.k.g, .string x.k.t, .int .i64 x.k.i, .int .i64 x.at_, .int .i64 x.r.place, .int .i64 x.r.time, .bool x.r.bare, .string x.r.key, .bool x.r.gone, .string x.r.value, .slice x.A x.r.heads.length x.c]] W (fun e w' => e = .returned (.bool true) ∧ ∃ K, Pr W0 p g d room K K w') := by
  have hky := hx.ky
  have hb0 := Box.new W 38 #[.int .i64 x.do_, .string x.k.g, .string x.k.t, .int .i64 x.k.i, .int .i64 x.at_, .int .i64 x.r.place, .int .i64 x.r.time, .bool x.r.bare, .string x.r.key, .bool x.r.gone, .string x.r.value, .slice x.A x.r.heads.length x.c]
  have hBA := (Below.refl W.heap.size W).alloc (Nat.le_refl _) (.cells #[.int .i64 x.do_, .string x.k.g, .string x.k.t, .int .i64 x.k.i, .int .i64 x.at_, .int .i64 x.r.place, .int .i64 x.r.time, .bool x.r.bare, .string x.r.key, .bool x.r.gone, .string x.r.value, .slice x.A x.r.heads.length x.c] 38)
  have hBB := (Below.refl (W.alloc (.cells #[.int .i64 x.do_, .string x.k.g, .string x.k.t, .int .i64 x.k.i, .int .i64 x.at_, .int .i64 x.r.place, .int .i64 x.r.time, .bool x.r.bare, .string x.r.key, .bool x.r.gone, .string x.r.value, .slice x.A x.r.heads.length x.c] 38)).heap.size (W.alloc (.cells #[.int .i64 x.do_, .string x.k.g, .string x.k.t, .int .i64 x.k.i, .int .i64 x.at_, .int .i64 x.r.place, .int .i64 x.r.time, .bool x.r.bare, .string x.r.key, .bool x.r.gone, .string x.r.value, .slice x.A x.r.heads.length x.c] 38))).alloc (Nat.le_refl _) (.cells #[.string x.k.g, .string x.k.t, .int .i64 x.k.i] 45)
  have hb1 := Box.new (W.alloc (.cells #[.int .i64 x.do_, .string x.k.g, .string x.k.t, .int .i64 x.k.i, .int .i64 x.at_, .int .i64 x.r.place, .int .i64 x.r.time, .bool x.r.bare, .string x.r.key, .bool x.r.gone, .string x.r.value, .slice x.A x.r.heads.length x.c] 38)) 45 #[.string x.k.g, .string x.k.t, .int .i64 x.k.i]
  rw [World.size_alloc] at hb1
  have HS := Lib.hid (show StI W0 p g d room F F x W.heap.size (W.heap.size + 1) _ from ⟨(h.later hBA).later hBB, hb0.later hBB, hb1⟩)
  have HX := Lib.hid hx
  obtain ⟨a0, a1, a2, a3, a4, a5, a6, a7, a8, a9, a10, a11⟩ : (W.alloc (.cells #[.int .i64 x.do_, .string x.k.g, .string x.k.t, .int .i64 x.k.i, .int .i64 x.at_, .int .i64 x.r.place, .int .i64 x.r.time, .bool x.r.bare, .string x.r.key, .bool x.r.gone, .string x.r.value, .slice x.A x.r.heads.length x.c] 38)).cell? ⟨W.heap.size, 0, none⟩ = some (.int .i64 x.do_) ∧ (W.alloc (.cells #[.int .i64 x.do_, .string x.k.g, .string x.k.t, .int .i64 x.k.i, .int .i64 x.at_, .int .i64 x.r.place, .int .i64 x.r.time, .bool x.r.bare, .string x.r.key, .bool x.r.gone, .string x.r.value, .slice x.A x.r.heads.length x.c] 38)).cell? ⟨W.heap.size, 1, none⟩ = some (.string x.k.g) ∧ (W.alloc (.cells #[.int .i64 x.do_, .string x.k.g, .string x.k.t, .int .i64 x.k.i, .int .i64 x.at_, .int .i64 x.r.place, .int .i64 x.r.time, .bool x.r.bare, .string x.r.key, .bool x.r.gone, .string x.r.value, .slice x.A x.r.heads.length x.c] 38)).cell? ⟨W.heap.size, 2, none⟩ = some (.string x.k.t) ∧ (W.alloc (.cells #[.int .i64 x.do_, .string x.k.g, .string x.k.t, .int .i64 x.k.i, .int .i64 x.at_, .int .i64 x.r.place, .int .i64 x.r.time, .bool x.r.bare, .string x.r.key, .bool x.r.gone, .string x.r.value, .slice x.A x.r.heads.length x.c] 38)).cell? ⟨W.heap.size, 3, none⟩ = some (.int .i64 x.k.i) ∧ (W.alloc (.cells #[.int .i64 x.do_, .string x.k.g, .string x.k.t, .int .i64 x.k.i, .int .i64 x.at_, .int .i64 x.r.place, .int .i64 x.r.time, .bool x.r.bare, .string x.r.key, .bool x.r.gone, .string x.r.value, .slice x.A x.r.heads.length x.c] 38)).cell? ⟨W.heap.size, 4, none⟩ = some (.int .i64 x.at_) ∧ (W.alloc (.cells #[.int .i64 x.do_, .string x.k.g, .string x.k.t, .int .i64 x.k.i, .int .i64 x.at_, .int .i64 x.r.place, .int .i64 x.r.time, .bool x.r.bare, .string x.r.key, .bool x.r.gone, .string x.r.value, .slice x.A x.r.heads.length x.c] 38)).cell? ⟨W.heap.size, 5, none⟩ = some (.int .i64 x.r.place) ∧ (W.alloc (.cells #[.int .i64 x.do_, .string x.k.g, .string x.k.t, .int .i64 x.k.i, .int .i64 x.at_, .int .i64 x.r.place, .int .i64 x.r.time, .bool x.r.bare, .string x.r.key, .bool x.r.gone, .string x.r.value, .slice x.A x.r.heads.length x.c] 38)).cell? ⟨W.heap.size, 6, none⟩ = some (.int .i64 x.r.time) ∧ (W.alloc (.cells #[.int .i64 x.do_, .string x.k.g, .string x.k.t, .int .i64 x.k.i, .int .i64 x.at_, .int .i64 x.r.place, .int .i64 x.r.time, .bool x.r.bare, .string x.r.key, .bool x.r.gone, .string x.r.value, .slice x.A x.r.heads.length x.c] 38)).cell? ⟨W.heap.size, 7, none⟩ = some (.bool x.r.bare) ∧ (W.alloc (.cells #[.int .i64 x.do_, .string x.k.g, .string x.k.t, .int .i64 x.k.i, .int .i64 x.at_, .int .i64 x.r.place, .int .i64 x.r.time, .bool x.r.bare, .string x.r.key, .bool x.r.gone, .string x.r.value, .slice x.A x.r.heads.length x.c] 38)).cell? ⟨W.heap.size, 8, none⟩ = some (.string x.r.key) ∧ (W.alloc (.cells #[.int .i64 x.do_, .string x.k.g, .string x.k.t, .int .i64 x.k.i, .int .i64 x.at_, .int .i64 x.r.place, .int .i64 x.r.time, .bool x.r.bare, .string x.r.key, .bool x.r.gone, .string x.r.value, .slice x.A x.r.heads.length x.c] 38)).cell? ⟨W.heap.size, 9, none⟩ = some (.bool x.r.gone) ∧ (W.alloc (.cells #[.int .i64 x.do_, .string x.k.g, .string x.k.t, .int .i64 x.k.i, .int .i64 x.at_, .int .i64 x.r.place, .int .i64 x.r.time, .bool x.r.bare, .string x.r.key, .bool x.r.gone, .string x.r.value, .slice x.A x.r.heads.length x.c] 38)).cell? ⟨W.heap.size, 10, none⟩ = some (.string x.r.value) ∧ (W.alloc (.cells #[.int .i64 x.do_, .string x.k.g, .string x.k.t, .int .i64 x.k.i, .int .i64 x.at_, .int .i64 x.r.place, .int .i64 x.r.time, .bool x.r.bare, .string x.r.key, .bool x.r.gone, .string x.r.value, .slice x.A x.r.heads.length x.c] 38)).cell? ⟨W.heap.size, 11, none⟩ = some (.slice x.A x.r.heads.length x.c) := ⟨(hb0.cell 0).trans rfl, (hb0.cell 1).trans rfl, (hb0.cell 2).trans rfl, (hb0.cell 3).trans rfl, (hb0.cell 4).trans rfl, (hb0.cell 5).trans rfl, (hb0.cell 6).trans rfl, (hb0.cell 7).trans rfl, (hb0.cell 8).trans rfl, (hb0.cell 9).trans rfl, (hb0.cell 10).trans rfl, (hb0.cell 11).trans rfl⟩
  have hbl := hb0.lt
  obtain ⟨y0, y1, y2, yl, _, _, _⟩ := ky3 hb1
  clear hb0 hBA hBB hb1 h
  rw [hd] at *
  go_enter Try.func10, Try.ntmps10
  go_wp2_with fail
  generalize ((W.alloc (.cells #[.int .i64 x.do_, .string x.k.g, .string x.k.t, .int .i64 x.k.i, .int .i64 x.at_, .int .i64 x.r.place, .int .i64 x.r.time, .bool x.r.bare, .string x.r.key, .bool x.r.gone, .string x.r.value, .slice x.A x.r.heads.length x.c] 38)).alloc (.cells #[.string x.k.g, .string x.k.t, .int .i64 x.k.i] 45)) = w0 at *
  generalize W.heap.size + 1 = q at *
  generalize W.heap.size = b at *
  clear a0 a1 a2 a3 a4 a5 a6 a7 a8 a9 a10 a11 hbl y0 y1 y2 yl hx
  have HS0 := Lib.hid HS.out.drew
  have hS0 := HS0.out.facts
  clear HS
  refine wp_region_held_drew (S := (fun w => w.cell? ⟨b, 0, none⟩ = some (.int .i64 x.do_) ∧ w.cell? ⟨b, 1, none⟩ = some (.string x.k.g) ∧ w.cell? ⟨b, 2, none⟩ = some (.string x.k.t) ∧ w.cell? ⟨b, 3, none⟩ = some (.int .i64 x.k.i) ∧ w.cell? ⟨b, 4, none⟩ = some (.int .i64 x.at_) ∧ w.cell? ⟨b, 5, none⟩ = some (.int .i64 x.r.place) ∧ w.cell? ⟨b, 6, none⟩ = some (.int .i64 x.r.time) ∧ w.cell? ⟨b, 7, none⟩ = some (.bool x.r.bare) ∧ w.cell? ⟨b, 8, none⟩ = some (.string x.r.key) ∧ w.cell? ⟨b, 9, none⟩ = some (.bool x.r.gone) ∧ w.cell? ⟨b, 10, none⟩ = some (.string x.r.value) ∧ w.cell? ⟨b, 11, none⟩ = some (.slice x.A x.r.heads.length x.c) ∧ w.cell? ⟨q, 0, none⟩ = some (.string x.k.g) ∧ w.cell? ⟨q, 1, none⟩ = some (.string x.k.t) ∧ w.cell? ⟨q, 2, none⟩ = some (.int .i64 x.k.i))) (by kernel_rfl) hS0 (fun hHeld => ?_)
  refine takeW (i := 0) (v := ?v14) rfl (by kernel_rfl) (by kernel_rfl) (by kernel_rfl) (fun _ _ _ h => h) (by kernel_rfl) hHeld ?hy14 ?rest14
  case hy14 => (intro w hSw; (try dsimp only at hSw); go_simp; (try with_reducible rfl))
  try simp only [Act.put, List.setIfInBounds_toArray, List.set_cons_zero, List.set_cons_succ]
  refine takeW (i := 1) (v := ?v15) rfl (by kernel_rfl) (by kernel_rfl) (by kernel_rfl) (fun _ _ _ h => h) (by kernel_rfl) hHeld ?hy15 ?rest15
  case hy15 => (intro w hSw; (try dsimp only at hSw); go_simp; (try with_reducible rfl))
  try simp only [Act.put, List.setIfInBounds_toArray, List.set_cons_zero, List.set_cons_succ]
  refine takeW (i := 2) (v := ?v16) rfl (by kernel_rfl) (by kernel_rfl) (by kernel_rfl) (fun _ _ _ h => h) (by kernel_rfl) hHeld ?hy16 ?rest16
  case hy16 => (intro w hSw; (try dsimp only at hSw); go_simp; (try with_reducible rfl))
  try simp only [Act.put, List.setIfInBounds_toArray, List.set_cons_zero, List.set_cons_succ]
  refine takeW (i := 4) (v := ?v17) rfl (by kernel_rfl) (by kernel_rfl) (by kernel_rfl) (fun _ _ _ h => h) (by kernel_rfl) hHeld ?hy17 ?rest17
  case hy17 => (intro w hSw; (try dsimp only at hSw); go_simp; (try with_reducible rfl))
  try simp only [Act.put, List.setIfInBounds_toArray, List.set_cons_zero, List.set_cons_succ]
  refine takeW (i := 5) (v := ?v18) rfl (by kernel_rfl) (by kernel_rfl) (by kernel_rfl) (fun _ _ _ h => h) (by kernel_rfl) hHeld ?hy18 ?rest18
  case hy18 => (intro w hSw; (try dsimp only at hSw); go_simp; (try with_reducible rfl))
  try simp only [Act.put, List.setIfInBounds_toArray, List.set_cons_zero, List.set_cons_succ]
  refine takeW (i := 6) (v := ?v19) rfl (by kernel_rfl) (by kernel_rfl) (by kernel_rfl) (fun _ _ _ h => h) (by kernel_rfl) hHeld ?hy19 ?rest19
  case hy19 => (intro w hSw; (try dsimp only at hSw); go_simp; (try with_reducible rfl))
  try simp only [Act.put, List.setIfInBounds_toArray, List.set_cons_zero, List.set_cons_succ]
  refine wpAnyH_ready (rs := [3]) (by kernel_rfl) (by simp) ?_
  refine consL rfl (by kernel_rfl) (fun K hK => ?_) AllReadyH.nil
  go_simp
  with_reducible refine (p_forget HS0.out.pr x.k.g).mono ?_
  rintro en w1 ⟨rfl, hp1, ho1⟩
  have H1 := Lib.hid (HS0.out.prog hp1 ho1)
  clear hp1 ho1
  refine hK.out _ _ (H1.out.facts) (fun hHeld => ?_)
  clear hK K
  try simp only [Act.put, List.setIfInBounds_toArray, List.set_cons_zero, List.set_cons_succ]
  refine wpAnyH_ready (rs := [7]) (by kernel_rfl) (by simp) ?_
  refine consL rfl (by kernel_rfl) (fun K hK => ?_) AllReadyH.nil
  go_simp
  with_reducible refine (d_forget H1.out.pr x.k.g).mono ?_
  rintro en w2 ⟨rfl, hp2, hk2⟩
  have H2 := Lib.hid (H1.out.doc hp2 hk2)
  clear hp2 hk2
  refine hK.out _ _ (H2.out.facts) (fun hHeld => ?_)
  clear hK K
  try simp only [Act.put, List.setIfInBounds_toArray, List.set_cons_zero, List.set_cons_succ]
  refine takeW (i := 8) (v := ?v20) rfl (by kernel_rfl) (by kernel_rfl) (by kernel_rfl) (fun _ _ _ h => h) (by kernel_rfl) hHeld ?hy20 ?rest20
  case hy20 => (intro w hSw; (try dsimp only at hSw); go_simp; (try with_reducible rfl))
  try simp only [Act.put, List.setIfInBounds_toArray, List.set_cons_zero, List.set_cons_succ]
  refine takeW (i := 9) (v := ?v21) rfl (by kernel_rfl) (by kernel_rfl) (by kernel_rfl) (fun _ _ _ h => h) (by kernel_rfl) hHeld ?hy21 ?rest21
  case hy21 => (intro w hSw; (try dsimp only at hSw); go_simp; (try with_reducible rfl))
  try simp only [Act.put, List.setIfInBounds_toArray, List.set_cons_zero, List.set_cons_succ]
  refine wpAnyH_done (by kernel_rfl) ?_ _
  go_wp2_with fail
  go_ret
  exact ⟨rfl, _, H2.out.pr⟩
set_option maxHeartbeats 8000000 in
set_option maxRecDepth 100000 in
theorem step3 {W0 W : World} {p g d : Nat} {room : Int} {F : List KE} {x : OO} (h : Pr W0 p g d room F F W) (hx : OOk W0 x) (hd : x.do_ = 3) :
    Calls Try.prog 10 #[.pointer (some ⟨p, 0, none⟩), .pointer (some ⟨d, 0, none⟩), .agg #[.int .i64 x.do_, .string x.k.g, .string x.k.t, .int .i64 x.k.i, .int .i64 x.at_, .int .i64 x.r.place, .int .i64 x.r.time, .bool x.r.bare, .string x.r.key, .bool x.r.gone, .string x.r.value, .slice x.A x.r.heads.length x.c]] W (fun e w' => e = .returned (.bool true) ∧ ∃ K, Pr W0 p g d room K K w') := by
  have hky := hx.ky
  have hb0 := Box.new W 38 #[.int .i64 x.do_, .string x.k.g, .string x.k.t, .int .i64 x.k.i, .int .i64 x.at_, .int .i64 x.r.place, .int .i64 x.r.time, .bool x.r.bare, .string x.r.key, .bool x.r.gone, .string x.r.value, .slice x.A x.r.heads.length x.c]
  have hBA := (Below.refl W.heap.size W).alloc (Nat.le_refl _) (.cells #[.int .i64 x.do_, .string x.k.g, .string x.k.t, .int .i64 x.k.i, .int .i64 x.at_, .int .i64 x.r.place, .int .i64 x.r.time, .bool x.r.bare, .string x.r.key, .bool x.r.gone, .string x.r.value, .slice x.A x.r.heads.length x.c] 38)
  have hBB := (Below.refl (W.alloc (.cells #[.int .i64 x.do_, .string x.k.g, .string x.k.t, .int .i64 x.k.i, .int .i64 x.at_, .int .i64 x.r.place, .int .i64 x.r.time, .bool x.r.bare, .string x.r.key, .bool x.r.gone, .string x.r.value, .slice x.A x.r.heads.length x.c] 38)).heap.size (W.alloc (.cells #[.int .i64 x.do_, .string x.k.g, .string x.k.t, .int .i64 x.k.i, .int .i64 x.at_, .int .i64 x.r.place, .int .i64 x.r.time, .bool x.r.bare, .string x.r.key, .bool x.r.gone, .string x.r.value, .slice x.A x.r.heads.length x.c] 38))).alloc (Nat.le_refl _) (.cells #[.string x.k.g, .string x.k.t, .int .i64 x.k.i] 45)
  have hb1 := Box.new (W.alloc (.cells #[.int .i64 x.do_, .string x.k.g, .string x.k.t, .int .i64 x.k.i, .int .i64 x.at_, .int .i64 x.r.place, .int .i64 x.r.time, .bool x.r.bare, .string x.r.key, .bool x.r.gone, .string x.r.value, .slice x.A x.r.heads.length x.c] 38)) 45 #[.string x.k.g, .string x.k.t, .int .i64 x.k.i]
  rw [World.size_alloc] at hb1
  have HS := Lib.hid (show StI W0 p g d room F F x W.heap.size (W.heap.size + 1) _ from ⟨(h.later hBA).later hBB, hb0.later hBB, hb1⟩)
  have HX := Lib.hid hx
  obtain ⟨a0, a1, a2, a3, a4, a5, a6, a7, a8, a9, a10, a11⟩ : (W.alloc (.cells #[.int .i64 x.do_, .string x.k.g, .string x.k.t, .int .i64 x.k.i, .int .i64 x.at_, .int .i64 x.r.place, .int .i64 x.r.time, .bool x.r.bare, .string x.r.key, .bool x.r.gone, .string x.r.value, .slice x.A x.r.heads.length x.c] 38)).cell? ⟨W.heap.size, 0, none⟩ = some (.int .i64 x.do_) ∧ (W.alloc (.cells #[.int .i64 x.do_, .string x.k.g, .string x.k.t, .int .i64 x.k.i, .int .i64 x.at_, .int .i64 x.r.place, .int .i64 x.r.time, .bool x.r.bare, .string x.r.key, .bool x.r.gone, .string x.r.value, .slice x.A x.r.heads.length x.c] 38)).cell? ⟨W.heap.size, 1, none⟩ = some (.string x.k.g) ∧ (W.alloc (.cells #[.int .i64 x.do_, .string x.k.g, .string x.k.t, .int .i64 x.k.i, .int .i64 x.at_, .int .i64 x.r.place, .int .i64 x.r.time, .bool x.r.bare, .string x.r.key, .bool x.r.gone, .string x.r.value, .slice x.A x.r.heads.length x.c] 38)).cell? ⟨W.heap.size, 2, none⟩ = some (.string x.k.t) ∧ (W.alloc (.cells #[.int .i64 x.do_, .string x.k.g, .string x.k.t, .int .i64 x.k.i, .int .i64 x.at_, .int .i64 x.r.place, .int .i64 x.r.time, .bool x.r.bare, .string x.r.key, .bool x.r.gone, .string x.r.value, .slice x.A x.r.heads.length x.c] 38)).cell? ⟨W.heap.size, 3, none⟩ = some (.int .i64 x.k.i) ∧ (W.alloc (.cells #[.int .i64 x.do_, .string x.k.g, .string x.k.t, .int .i64 x.k.i, .int .i64 x.at_, .int .i64 x.r.place, .int .i64 x.r.time, .bool x.r.bare, .string x.r.key, .bool x.r.gone, .string x.r.value, .slice x.A x.r.heads.length x.c] 38)).cell? ⟨W.heap.size, 4, none⟩ = some (.int .i64 x.at_) ∧ (W.alloc (.cells #[.int .i64 x.do_, .string x.k.g, .string x.k.t, .int .i64 x.k.i, .int .i64 x.at_, .int .i64 x.r.place, .int .i64 x.r.time, .bool x.r.bare, .string x.r.key, .bool x.r.gone, .string x.r.value, .slice x.A x.r.heads.length x.c] 38)).cell? ⟨W.heap.size, 5, none⟩ = some (.int .i64 x.r.place) ∧ (W.alloc (.cells #[.int .i64 x.do_, .string x.k.g, .string x.k.t, .int .i64 x.k.i, .int .i64 x.at_, .int .i64 x.r.place, .int .i64 x.r.time, .bool x.r.bare, .string x.r.key, .bool x.r.gone, .string x.r.value, .slice x.A x.r.heads.length x.c] 38)).cell? ⟨W.heap.size, 6, none⟩ = some (.int .i64 x.r.time) ∧ (W.alloc (.cells #[.int .i64 x.do_, .string x.k.g, .string x.k.t, .int .i64 x.k.i, .int .i64 x.at_, .int .i64 x.r.place, .int .i64 x.r.time, .bool x.r.bare, .string x.r.key, .bool x.r.gone, .string x.r.value, .slice x.A x.r.heads.length x.c] 38)).cell? ⟨W.heap.size, 7, none⟩ = some (.bool x.r.bare) ∧ (W.alloc (.cells #[.int .i64 x.do_, .string x.k.g, .string x.k.t, .int .i64 x.k.i, .int .i64 x.at_, .int .i64 x.r.place, .int .i64 x.r.time, .bool x.r.bare, .string x.r.key, .bool x.r.gone, .string x.r.value, .slice x.A x.r.heads.length x.c] 38)).cell? ⟨W.heap.size, 8, none⟩ = some (.string x.r.key) ∧ (W.alloc (.cells #[.int .i64 x.do_, .string x.k.g, .string x.k.t, .int .i64 x.k.i, .int .i64 x.at_, .int .i64 x.r.place, .int .i64 x.r.time, .bool x.r.bare, .string x.r.key, .bool x.r.gone, .string x.r.value, .slice x.A x.r.heads.length x.c] 38)).cell? ⟨W.heap.size, 9, none⟩ = some (.bool x.r.gone) ∧ (W.alloc (.cells #[.int .i64 x.do_, .string x.k.g, .string x.k.t, .int .i64 x.k.i, .int .i64 x.at_, .int .i64 x.r.place, .int .i64 x.r.time, .bool x.r.bare, .string x.r.key, .bool x.r.gone, .string x.r.value, .slice x.A x.r.heads.length x.c] 38)).cell? ⟨W.heap.size, 10, none⟩ = some (.string x.r.value) ∧ (W.alloc (.cells #[.int .i64 x.do_, .string x.k.g, .string x.k.t, .int .i64 x.k.i, .int .i64 x.at_, .int .i64 x.r.place, .int .i64 x.r.time, .bool x.r.bare, .string x.r.key, .bool x.r.gone, .string x.r.value, .slice x.A x.r.heads.length x.c] 38)).cell? ⟨W.heap.size, 11, none⟩ = some (.slice x.A x.r.heads.length x.c) := ⟨(hb0.cell 0).trans rfl, (hb0.cell 1).trans rfl, (hb0.cell 2).trans rfl, (hb0.cell 3).trans rfl, (hb0.cell 4).trans rfl, (hb0.cell 5).trans rfl, (hb0.cell 6).trans rfl, (hb0.cell 7).trans rfl, (hb0.cell 8).trans rfl, (hb0.cell 9).trans rfl, (hb0.cell 10).trans rfl, (hb0.cell 11).trans rfl⟩
  have hbl := hb0.lt
  obtain ⟨y0, y1, y2, yl, _, _, _⟩ := ky3 hb1
  clear hb0 hBA hBB hb1 h
  rw [hd] at *
  go_enter Try.func10, Try.ntmps10
  go_wp2_with fail
  generalize ((W.alloc (.cells #[.int .i64 x.do_, .string x.k.g, .string x.k.t, .int .i64 x.k.i, .int .i64 x.at_, .int .i64 x.r.place, .int .i64 x.r.time, .bool x.r.bare, .string x.r.key, .bool x.r.gone, .string x.r.value, .slice x.A x.r.heads.length x.c] 38)).alloc (.cells #[.string x.k.g, .string x.k.t, .int .i64 x.k.i] 45)) = w0 at *
  generalize W.heap.size + 1 = q at *
  generalize W.heap.size = b at *
  clear a0 a1 a2 a3 a4 a5 a6 a7 a8 a9 a10 a11 hbl y0 y1 y2 yl hx
  have HS0 := Lib.hid HS.out.drew
  have hS0 := HS0.out.facts
  clear HS
  refine wp_region_held_drew (S := (fun w => w.cell? ⟨b, 0, none⟩ = some (.int .i64 x.do_) ∧ w.cell? ⟨b, 1, none⟩ = some (.string x.k.g) ∧ w.cell? ⟨b, 2, none⟩ = some (.string x.k.t) ∧ w.cell? ⟨b, 3, none⟩ = some (.int .i64 x.k.i) ∧ w.cell? ⟨b, 4, none⟩ = some (.int .i64 x.at_) ∧ w.cell? ⟨b, 5, none⟩ = some (.int .i64 x.r.place) ∧ w.cell? ⟨b, 6, none⟩ = some (.int .i64 x.r.time) ∧ w.cell? ⟨b, 7, none⟩ = some (.bool x.r.bare) ∧ w.cell? ⟨b, 8, none⟩ = some (.string x.r.key) ∧ w.cell? ⟨b, 9, none⟩ = some (.bool x.r.gone) ∧ w.cell? ⟨b, 10, none⟩ = some (.string x.r.value) ∧ w.cell? ⟨b, 11, none⟩ = some (.slice x.A x.r.heads.length x.c) ∧ w.cell? ⟨q, 0, none⟩ = some (.string x.k.g) ∧ w.cell? ⟨q, 1, none⟩ = some (.string x.k.t) ∧ w.cell? ⟨q, 2, none⟩ = some (.int .i64 x.k.i))) (by kernel_rfl) hS0 (fun hHeld => ?_)
  refine takeW (i := 0) (v := ?v22) rfl (by kernel_rfl) (by kernel_rfl) (by kernel_rfl) (fun _ _ _ h => h) (by kernel_rfl) hHeld ?hy22 ?rest22
  case hy22 => (intro w hSw; (try dsimp only at hSw); go_simp; (try with_reducible rfl))
  try simp only [Act.put, List.setIfInBounds_toArray, List.set_cons_zero, List.set_cons_succ]
  refine takeW (i := 1) (v := ?v23) rfl (by kernel_rfl) (by kernel_rfl) (by kernel_rfl) (fun _ _ _ h => h) (by kernel_rfl) hHeld ?hy23 ?rest23
  case hy23 => (intro w hSw; (try dsimp only at hSw); go_simp; (try with_reducible rfl))
  try simp only [Act.put, List.setIfInBounds_toArray, List.set_cons_zero, List.set_cons_succ]
  refine takeW (i := 2) (v := ?v24) rfl (by kernel_rfl) (by kernel_rfl) (by kernel_rfl) (fun _ _ _ h => h) (by kernel_rfl) hHeld ?hy24 ?rest24
  case hy24 => (intro w hSw; (try dsimp only at hSw); go_simp; (try with_reducible rfl))
  try simp only [Act.put, List.setIfInBounds_toArray, List.set_cons_zero, List.set_cons_succ]
  refine takeW (i := 3) (v := ?v25) rfl (by kernel_rfl) (by kernel_rfl) (by kernel_rfl) (fun _ _ _ h => h) (by kernel_rfl) hHeld ?hy25 ?rest25
  case hy25 => (intro w hSw; (try dsimp only at hSw); go_simp; (try with_reducible rfl))
  try simp only [Act.put, List.setIfInBounds_toArray, List.set_cons_zero, List.set_cons_succ]
  refine takeW (i := 5) (v := ?v26) rfl (by kernel_rfl) (by kernel_rfl) (by kernel_rfl) (fun _ _ _ h => h) (by kernel_rfl) hHeld ?hy26 ?rest26
  case hy26 => (intro w hSw; (try dsimp only at hSw); go_simp; (try with_reducible rfl))
  try simp only [Act.put, List.setIfInBounds_toArray, List.set_cons_zero, List.set_cons_succ]
  refine takeW (i := 6) (v := ?v27) rfl (by kernel_rfl) (by kernel_rfl) (by kernel_rfl) (fun _ _ _ h => h) (by kernel_rfl) hHeld ?hy27 ?rest27
  case hy27 => (intro w hSw; (try dsimp only at hSw); go_simp; (try with_reducible rfl))
  try simp only [Act.put, List.setIfInBounds_toArray, List.set_cons_zero, List.set_cons_succ]
  refine takeW (i := 7) (v := ?v28) rfl (by kernel_rfl) (by kernel_rfl) (by kernel_rfl) (fun _ _ _ h => h) (by kernel_rfl) hHeld ?hy28 ?rest28
  case hy28 => (intro w hSw; (try dsimp only at hSw); go_simp; (try with_reducible rfl))
  try simp only [Act.put, List.setIfInBounds_toArray, List.set_cons_zero, List.set_cons_succ]
  refine takeW (i := 8) (v := ?v29) rfl (by kernel_rfl) (by kernel_rfl) (by kernel_rfl) (fun _ _ _ h => h) (by kernel_rfl) hHeld ?hy29 ?rest29
  case hy29 => (intro w hSw; (try dsimp only at hSw); go_simp; (try with_reducible rfl))
  try simp only [Act.put, List.setIfInBounds_toArray, List.set_cons_zero, List.set_cons_succ]
  refine wpAnyH_ready (rs := [4]) (by kernel_rfl) (by simp) ?_
  refine consL rfl (by kernel_rfl) (fun K hK => ?_) AllReadyH.nil
  go_simp
  with_reducible refine (p_drop HS0.out.pr x.k.t).mono ?_
  rintro en w1 ⟨rfl, hp1, ho1⟩
  have H1 := Lib.hid (HS0.out.prog hp1 ho1)
  clear hp1 ho1
  refine hK.out _ _ (H1.out.facts) (fun hHeld => ?_)
  clear hK K
  try simp only [Act.put, List.setIfInBounds_toArray, List.set_cons_zero, List.set_cons_succ]
  refine wpAnyH_ready (rs := [9]) (by kernel_rfl) (by simp) ?_
  refine consL rfl (by kernel_rfl) (fun K hK => ?_) AllReadyH.nil
  go_simp
  with_reducible refine (d_drop H1.out.pr x.k.t).mono ?_
  rintro en w2 ⟨rfl, hp2, hk2⟩
  have H2 := Lib.hid (H1.out.doc hp2 hk2)
  clear hp2 hk2
  refine hK.out _ _ (H2.out.facts) (fun hHeld => ?_)
  clear hK K
  try simp only [Act.put, List.setIfInBounds_toArray, List.set_cons_zero, List.set_cons_succ]
  refine takeW (i := 10) (v := ?v30) rfl (by kernel_rfl) (by kernel_rfl) (by kernel_rfl) (fun _ _ _ h => h) (by kernel_rfl) hHeld ?hy30 ?rest30
  case hy30 => (intro w hSw; (try dsimp only at hSw); go_simp; (try with_reducible rfl))
  try simp only [Act.put, List.setIfInBounds_toArray, List.set_cons_zero, List.set_cons_succ]
  refine takeW (i := 11) (v := ?v31) rfl (by kernel_rfl) (by kernel_rfl) (by kernel_rfl) (fun _ _ _ h => h) (by kernel_rfl) hHeld ?hy31 ?rest31
  case hy31 => (intro w hSw; (try dsimp only at hSw); go_simp; (try with_reducible rfl))
  try simp only [Act.put, List.setIfInBounds_toArray, List.set_cons_zero, List.set_cons_succ]
  refine wpAnyH_done (by kernel_rfl) ?_ _
  go_wp2_with fail
  go_ret
  exact ⟨rfl, _, H2.out.pr⟩
set_option maxHeartbeats 8000000 in
set_option maxRecDepth 100000 in
theorem step4 {W0 W : World} {p g d : Nat} {room : Int} {F : List KE} {x : OO} (h : Pr W0 p g d room F F W) (hx : OOk W0 x) (hd : x.do_ = 4) :
    Calls Try.prog 10 #[.pointer (some ⟨p, 0, none⟩), .pointer (some ⟨d, 0, none⟩), .agg #[.int .i64 x.do_, .string x.k.g, .string x.k.t, .int .i64 x.k.i, .int .i64 x.at_, .int .i64 x.r.place, .int .i64 x.r.time, .bool x.r.bare, .string x.r.key, .bool x.r.gone, .string x.r.value, .slice x.A x.r.heads.length x.c]] W (fun e w' => e = .returned (.bool true) ∧ ∃ K, Pr W0 p g d room K K w') := by
  have hky := hx.ky
  have hb0 := Box.new W 38 #[.int .i64 x.do_, .string x.k.g, .string x.k.t, .int .i64 x.k.i, .int .i64 x.at_, .int .i64 x.r.place, .int .i64 x.r.time, .bool x.r.bare, .string x.r.key, .bool x.r.gone, .string x.r.value, .slice x.A x.r.heads.length x.c]
  have hBA := (Below.refl W.heap.size W).alloc (Nat.le_refl _) (.cells #[.int .i64 x.do_, .string x.k.g, .string x.k.t, .int .i64 x.k.i, .int .i64 x.at_, .int .i64 x.r.place, .int .i64 x.r.time, .bool x.r.bare, .string x.r.key, .bool x.r.gone, .string x.r.value, .slice x.A x.r.heads.length x.c] 38)
  have hBB := (Below.refl (W.alloc (.cells #[.int .i64 x.do_, .string x.k.g, .string x.k.t, .int .i64 x.k.i, .int .i64 x.at_, .int .i64 x.r.place, .int .i64 x.r.time, .bool x.r.bare, .string x.r.key, .bool x.r.gone, .string x.r.value, .slice x.A x.r.heads.length x.c] 38)).heap.size (W.alloc (.cells #[.int .i64 x.do_, .string x.k.g, .string x.k.t, .int .i64 x.k.i, .int .i64 x.at_, .int .i64 x.r.place, .int .i64 x.r.time, .bool x.r.bare, .string x.r.key, .bool x.r.gone, .string x.r.value, .slice x.A x.r.heads.length x.c] 38))).alloc (Nat.le_refl _) (.cells #[.string x.k.g, .string x.k.t, .int .i64 x.k.i] 45)
  have hb1 := Box.new (W.alloc (.cells #[.int .i64 x.do_, .string x.k.g, .string x.k.t, .int .i64 x.k.i, .int .i64 x.at_, .int .i64 x.r.place, .int .i64 x.r.time, .bool x.r.bare, .string x.r.key, .bool x.r.gone, .string x.r.value, .slice x.A x.r.heads.length x.c] 38)) 45 #[.string x.k.g, .string x.k.t, .int .i64 x.k.i]
  rw [World.size_alloc] at hb1
  have HS := Lib.hid (show StI W0 p g d room F F x W.heap.size (W.heap.size + 1) _ from ⟨(h.later hBA).later hBB, hb0.later hBB, hb1⟩)
  have HX := Lib.hid hx
  obtain ⟨a0, a1, a2, a3, a4, a5, a6, a7, a8, a9, a10, a11⟩ : (W.alloc (.cells #[.int .i64 x.do_, .string x.k.g, .string x.k.t, .int .i64 x.k.i, .int .i64 x.at_, .int .i64 x.r.place, .int .i64 x.r.time, .bool x.r.bare, .string x.r.key, .bool x.r.gone, .string x.r.value, .slice x.A x.r.heads.length x.c] 38)).cell? ⟨W.heap.size, 0, none⟩ = some (.int .i64 x.do_) ∧ (W.alloc (.cells #[.int .i64 x.do_, .string x.k.g, .string x.k.t, .int .i64 x.k.i, .int .i64 x.at_, .int .i64 x.r.place, .int .i64 x.r.time, .bool x.r.bare, .string x.r.key, .bool x.r.gone, .string x.r.value, .slice x.A x.r.heads.length x.c] 38)).cell? ⟨W.heap.size, 1, none⟩ = some (.string x.k.g) ∧ (W.alloc (.cells #[.int .i64 x.do_, .string x.k.g, .string x.k.t, .int .i64 x.k.i, .int .i64 x.at_, .int .i64 x.r.place, .int .i64 x.r.time, .bool x.r.bare, .string x.r.key, .bool x.r.gone, .string x.r.value, .slice x.A x.r.heads.length x.c] 38)).cell? ⟨W.heap.size, 2, none⟩ = some (.string x.k.t) ∧ (W.alloc (.cells #[.int .i64 x.do_, .string x.k.g, .string x.k.t, .int .i64 x.k.i, .int .i64 x.at_, .int .i64 x.r.place, .int .i64 x.r.time, .bool x.r.bare, .string x.r.key, .bool x.r.gone, .string x.r.value, .slice x.A x.r.heads.length x.c] 38)).cell? ⟨W.heap.size, 3, none⟩ = some (.int .i64 x.k.i) ∧ (W.alloc (.cells #[.int .i64 x.do_, .string x.k.g, .string x.k.t, .int .i64 x.k.i, .int .i64 x.at_, .int .i64 x.r.place, .int .i64 x.r.time, .bool x.r.bare, .string x.r.key, .bool x.r.gone, .string x.r.value, .slice x.A x.r.heads.length x.c] 38)).cell? ⟨W.heap.size, 4, none⟩ = some (.int .i64 x.at_) ∧ (W.alloc (.cells #[.int .i64 x.do_, .string x.k.g, .string x.k.t, .int .i64 x.k.i, .int .i64 x.at_, .int .i64 x.r.place, .int .i64 x.r.time, .bool x.r.bare, .string x.r.key, .bool x.r.gone, .string x.r.value, .slice x.A x.r.heads.length x.c] 38)).cell? ⟨W.heap.size, 5, none⟩ = some (.int .i64 x.r.place) ∧ (W.alloc (.cells #[.int .i64 x.do_, .string x.k.g, .string x.k.t, .int .i64 x.k.i, .int .i64 x.at_, .int .i64 x.r.place, .int .i64 x.r.time, .bool x.r.bare, .string x.r.key, .bool x.r.gone, .string x.r.value, .slice x.A x.r.heads.length x.c] 38)).cell? ⟨W.heap.size, 6, none⟩ = some (.int .i64 x.r.time) ∧ (W.alloc (.cells #[.int .i64 x.do_, .string x.k.g, .string x.k.t, .int .i64 x.k.i, .int .i64 x.at_, .int .i64 x.r.place, .int .i64 x.r.time, .bool x.r.bare, .string x.r.key, .bool x.r.gone, .string x.r.value, .slice x.A x.r.heads.length x.c] 38)).cell? ⟨W.heap.size, 7, none⟩ = some (.bool x.r.bare) ∧ (W.alloc (.cells #[.int .i64 x.do_, .string x.k.g, .string x.k.t, .int .i64 x.k.i, .int .i64 x.at_, .int .i64 x.r.place, .int .i64 x.r.time, .bool x.r.bare, .string x.r.key, .bool x.r.gone, .string x.r.value, .slice x.A x.r.heads.length x.c] 38)).cell? ⟨W.heap.size, 8, none⟩ = some (.string x.r.key) ∧ (W.alloc (.cells #[.int .i64 x.do_, .string x.k.g, .string x.k.t, .int .i64 x.k.i, .int .i64 x.at_, .int .i64 x.r.place, .int .i64 x.r.time, .bool x.r.bare, .string x.r.key, .bool x.r.gone, .string x.r.value, .slice x.A x.r.heads.length x.c] 38)).cell? ⟨W.heap.size, 9, none⟩ = some (.bool x.r.gone) ∧ (W.alloc (.cells #[.int .i64 x.do_, .string x.k.g, .string x.k.t, .int .i64 x.k.i, .int .i64 x.at_, .int .i64 x.r.place, .int .i64 x.r.time, .bool x.r.bare, .string x.r.key, .bool x.r.gone, .string x.r.value, .slice x.A x.r.heads.length x.c] 38)).cell? ⟨W.heap.size, 10, none⟩ = some (.string x.r.value) ∧ (W.alloc (.cells #[.int .i64 x.do_, .string x.k.g, .string x.k.t, .int .i64 x.k.i, .int .i64 x.at_, .int .i64 x.r.place, .int .i64 x.r.time, .bool x.r.bare, .string x.r.key, .bool x.r.gone, .string x.r.value, .slice x.A x.r.heads.length x.c] 38)).cell? ⟨W.heap.size, 11, none⟩ = some (.slice x.A x.r.heads.length x.c) := ⟨(hb0.cell 0).trans rfl, (hb0.cell 1).trans rfl, (hb0.cell 2).trans rfl, (hb0.cell 3).trans rfl, (hb0.cell 4).trans rfl, (hb0.cell 5).trans rfl, (hb0.cell 6).trans rfl, (hb0.cell 7).trans rfl, (hb0.cell 8).trans rfl, (hb0.cell 9).trans rfl, (hb0.cell 10).trans rfl, (hb0.cell 11).trans rfl⟩
  have hbl := hb0.lt
  obtain ⟨y0, y1, y2, yl, _, _, _⟩ := ky3 hb1
  clear hb0 hBA hBB hb1 h
  rw [hd] at *
  go_enter Try.func10, Try.ntmps10
  go_wp2_with fail
  generalize ((W.alloc (.cells #[.int .i64 x.do_, .string x.k.g, .string x.k.t, .int .i64 x.k.i, .int .i64 x.at_, .int .i64 x.r.place, .int .i64 x.r.time, .bool x.r.bare, .string x.r.key, .bool x.r.gone, .string x.r.value, .slice x.A x.r.heads.length x.c] 38)).alloc (.cells #[.string x.k.g, .string x.k.t, .int .i64 x.k.i] 45)) = w0 at *
  generalize W.heap.size + 1 = q at *
  generalize W.heap.size = b at *
  clear a0 a1 a2 a3 a4 a5 a6 a7 a8 a9 a10 a11 hbl y0 y1 y2 yl hx
  have HS0 := Lib.hid HS.out.drew
  have hS0 := HS0.out.facts
  clear HS
  refine wp_region_held_drew (S := (fun w => w.cell? ⟨b, 0, none⟩ = some (.int .i64 x.do_) ∧ w.cell? ⟨b, 1, none⟩ = some (.string x.k.g) ∧ w.cell? ⟨b, 2, none⟩ = some (.string x.k.t) ∧ w.cell? ⟨b, 3, none⟩ = some (.int .i64 x.k.i) ∧ w.cell? ⟨b, 4, none⟩ = some (.int .i64 x.at_) ∧ w.cell? ⟨b, 5, none⟩ = some (.int .i64 x.r.place) ∧ w.cell? ⟨b, 6, none⟩ = some (.int .i64 x.r.time) ∧ w.cell? ⟨b, 7, none⟩ = some (.bool x.r.bare) ∧ w.cell? ⟨b, 8, none⟩ = some (.string x.r.key) ∧ w.cell? ⟨b, 9, none⟩ = some (.bool x.r.gone) ∧ w.cell? ⟨b, 10, none⟩ = some (.string x.r.value) ∧ w.cell? ⟨b, 11, none⟩ = some (.slice x.A x.r.heads.length x.c) ∧ w.cell? ⟨q, 0, none⟩ = some (.string x.k.g) ∧ w.cell? ⟨q, 1, none⟩ = some (.string x.k.t) ∧ w.cell? ⟨q, 2, none⟩ = some (.int .i64 x.k.i))) (by kernel_rfl) hS0 (fun hHeld => ?_)
  refine takeW (i := 0) (v := ?v32) rfl (by kernel_rfl) (by kernel_rfl) (by kernel_rfl) (fun _ _ _ h => h) (by kernel_rfl) hHeld ?hy32 ?rest32
  case hy32 => (intro w hSw; (try dsimp only at hSw); go_simp; (try with_reducible rfl))
  try simp only [Act.put, List.setIfInBounds_toArray, List.set_cons_zero, List.set_cons_succ]
  refine takeW (i := 1) (v := ?v33) rfl (by kernel_rfl) (by kernel_rfl) (by kernel_rfl) (fun _ _ _ h => h) (by kernel_rfl) hHeld ?hy33 ?rest33
  case hy33 => (intro w hSw; (try dsimp only at hSw); go_simp; (try with_reducible rfl))
  try simp only [Act.put, List.setIfInBounds_toArray, List.set_cons_zero, List.set_cons_succ]
  refine takeW (i := 2) (v := ?v34) rfl (by kernel_rfl) (by kernel_rfl) (by kernel_rfl) (fun _ _ _ h => h) (by kernel_rfl) hHeld ?hy34 ?rest34
  case hy34 => (intro w hSw; (try dsimp only at hSw); go_simp; (try with_reducible rfl))
  try simp only [Act.put, List.setIfInBounds_toArray, List.set_cons_zero, List.set_cons_succ]
  refine takeW (i := 4) (v := ?v35) rfl (by kernel_rfl) (by kernel_rfl) (by kernel_rfl) (fun _ _ _ h => h) (by kernel_rfl) hHeld ?hy35 ?rest35
  case hy35 => (intro w hSw; (try dsimp only at hSw); go_simp; (try with_reducible rfl))
  try simp only [Act.put, List.setIfInBounds_toArray, List.set_cons_zero, List.set_cons_succ]
  refine takeW (i := 5) (v := ?v36) rfl (by kernel_rfl) (by kernel_rfl) (by kernel_rfl) (fun _ _ _ h => h) (by kernel_rfl) hHeld ?hy36 ?rest36
  case hy36 => (intro w hSw; (try dsimp only at hSw); go_simp; (try with_reducible rfl))
  try simp only [Act.put, List.setIfInBounds_toArray, List.set_cons_zero, List.set_cons_succ]
  refine takeW (i := 6) (v := ?v37) rfl (by kernel_rfl) (by kernel_rfl) (by kernel_rfl) (fun _ _ _ h => h) (by kernel_rfl) hHeld ?hy37 ?rest37
  case hy37 => (intro w hSw; (try dsimp only at hSw); go_simp; (try with_reducible rfl))
  try simp only [Act.put, List.setIfInBounds_toArray, List.set_cons_zero, List.set_cons_succ]
  refine wpAnyH_ready (rs := [3]) (by kernel_rfl) (by simp) ?_
  refine consL rfl (by kernel_rfl) (fun K hK => ?_) AllReadyH.nil
  go_simp
  have pa := p_apply HS0.out.pr x.r x.A x.c (HX.out.rin.below HS0.out.pr.below)
  unfold recC at pa
  with_reducible refine pa.mono ?_
  clear pa
  rintro en w1 ⟨rfl, hp1, ho1⟩
  have H1 := Lib.hid (HS0.out.prog hp1 ho1)
  clear hp1 ho1
  refine hK.out _ _ (H1.out.facts) (fun hHeld => ?_)
  clear hK K
  try simp only [Act.put, List.setIfInBounds_toArray, List.set_cons_zero, List.set_cons_succ]
  refine wpAnyH_ready (rs := [7]) (by kernel_rfl) (by simp) ?_
  refine consL rfl (by kernel_rfl) (fun K hK => ?_) AllReadyH.nil
  go_simp
  have pa := d_apply H1.out.pr x.r x.A x.c (HX.out.rin.below H1.out.pr.below)
  unfold recC at pa
  with_reducible refine pa.mono ?_
  clear pa
  rintro en w2 ⟨rfl, hp2, hk2⟩
  have H2 := Lib.hid (H1.out.doc hp2 hk2)
  clear hp2 hk2
  refine hK.out _ _ (H2.out.facts) (fun hHeld => ?_)
  clear hK K
  try simp only [Act.put, List.setIfInBounds_toArray, List.set_cons_zero, List.set_cons_succ]
  refine takeW (i := 8) (v := ?v38) rfl (by kernel_rfl) (by kernel_rfl) (by kernel_rfl) (fun _ _ _ h => h) (by kernel_rfl) hHeld ?hy38 ?rest38
  case hy38 => (intro w hSw; (try dsimp only at hSw); go_simp; (try with_reducible rfl))
  try simp only [Act.put, List.setIfInBounds_toArray, List.set_cons_zero, List.set_cons_succ]
  refine takeW (i := 9) (v := ?v39) rfl (by kernel_rfl) (by kernel_rfl) (by kernel_rfl) (fun _ _ _ h => h) (by kernel_rfl) hHeld ?hy39 ?rest39
  case hy39 => (intro w hSw; (try dsimp only at hSw); go_simp; (try with_reducible rfl))
  try simp only [Act.put, List.setIfInBounds_toArray, List.set_cons_zero, List.set_cons_succ]
  refine wpAnyH_done (by kernel_rfl) ?_ _
  go_wp2_with fail
  go_ret
  exact ⟨rfl, _, H2.out.pr⟩
set_option maxHeartbeats 8000000 in
set_option maxRecDepth 100000 in
theorem step6 {W0 W : World} {p g d : Nat} {room : Int} {F : List KE} {x : OO} (h : Pr W0 p g d room F F W) (hx : OOk W0 x) (h0 : ¬ x.do_ = 0) (h1 : ¬ x.do_ = 1) (h2 : ¬ x.do_ = 2) (h3 : ¬ x.do_ = 3) (h4 : ¬ x.do_ = 4) (h5 : ¬ x.do_ = 5) :
    Calls Try.prog 10 #[.pointer (some ⟨p, 0, none⟩), .pointer (some ⟨d, 0, none⟩), .agg #[.int .i64 x.do_, .string x.k.g, .string x.k.t, .int .i64 x.k.i, .int .i64 x.at_, .int .i64 x.r.place, .int .i64 x.r.time, .bool x.r.bare, .string x.r.key, .bool x.r.gone, .string x.r.value, .slice x.A x.r.heads.length x.c]] W (fun e w' => e = .returned (.bool true) ∧ ∃ K, Pr W0 p g d room K K w') := by
  have hky := hx.ky
  have hb0 := Box.new W 38 #[.int .i64 x.do_, .string x.k.g, .string x.k.t, .int .i64 x.k.i, .int .i64 x.at_, .int .i64 x.r.place, .int .i64 x.r.time, .bool x.r.bare, .string x.r.key, .bool x.r.gone, .string x.r.value, .slice x.A x.r.heads.length x.c]
  have hBA := (Below.refl W.heap.size W).alloc (Nat.le_refl _) (.cells #[.int .i64 x.do_, .string x.k.g, .string x.k.t, .int .i64 x.k.i, .int .i64 x.at_, .int .i64 x.r.place, .int .i64 x.r.time, .bool x.r.bare, .string x.r.key, .bool x.r.gone, .string x.r.value, .slice x.A x.r.heads.length x.c] 38)
  have hBB := (Below.refl (W.alloc (.cells #[.int .i64 x.do_, .string x.k.g, .string x.k.t, .int .i64 x.k.i, .int .i64 x.at_, .int .i64 x.r.place, .int .i64 x.r.time, .bool x.r.bare, .string x.r.key, .bool x.r.gone, .string x.r.value, .slice x.A x.r.heads.length x.c] 38)).heap.size (W.alloc (.cells #[.int .i64 x.do_, .string x.k.g, .string x.k.t, .int .i64 x.k.i, .int .i64 x.at_, .int .i64 x.r.place, .int .i64 x.r.time, .bool x.r.bare, .string x.r.key, .bool x.r.gone, .string x.r.value, .slice x.A x.r.heads.length x.c] 38))).alloc (Nat.le_refl _) (.cells #[.string x.k.g, .string x.k.t, .int .i64 x.k.i] 45)
  have hb1 := Box.new (W.alloc (.cells #[.int .i64 x.do_, .string x.k.g, .string x.k.t, .int .i64 x.k.i, .int .i64 x.at_, .int .i64 x.r.place, .int .i64 x.r.time, .bool x.r.bare, .string x.r.key, .bool x.r.gone, .string x.r.value, .slice x.A x.r.heads.length x.c] 38)) 45 #[.string x.k.g, .string x.k.t, .int .i64 x.k.i]
  rw [World.size_alloc] at hb1
  have HS := Lib.hid (show StI W0 p g d room F F x W.heap.size (W.heap.size + 1) _ from ⟨(h.later hBA).later hBB, hb0.later hBB, hb1⟩)
  have HX := Lib.hid hx
  obtain ⟨a0, a1, a2, a3, a4, a5, a6, a7, a8, a9, a10, a11⟩ : (W.alloc (.cells #[.int .i64 x.do_, .string x.k.g, .string x.k.t, .int .i64 x.k.i, .int .i64 x.at_, .int .i64 x.r.place, .int .i64 x.r.time, .bool x.r.bare, .string x.r.key, .bool x.r.gone, .string x.r.value, .slice x.A x.r.heads.length x.c] 38)).cell? ⟨W.heap.size, 0, none⟩ = some (.int .i64 x.do_) ∧ (W.alloc (.cells #[.int .i64 x.do_, .string x.k.g, .string x.k.t, .int .i64 x.k.i, .int .i64 x.at_, .int .i64 x.r.place, .int .i64 x.r.time, .bool x.r.bare, .string x.r.key, .bool x.r.gone, .string x.r.value, .slice x.A x.r.heads.length x.c] 38)).cell? ⟨W.heap.size, 1, none⟩ = some (.string x.k.g) ∧ (W.alloc (.cells #[.int .i64 x.do_, .string x.k.g, .string x.k.t, .int .i64 x.k.i, .int .i64 x.at_, .int .i64 x.r.place, .int .i64 x.r.time, .bool x.r.bare, .string x.r.key, .bool x.r.gone, .string x.r.value, .slice x.A x.r.heads.length x.c] 38)).cell? ⟨W.heap.size, 2, none⟩ = some (.string x.k.t) ∧ (W.alloc (.cells #[.int .i64 x.do_, .string x.k.g, .string x.k.t, .int .i64 x.k.i, .int .i64 x.at_, .int .i64 x.r.place, .int .i64 x.r.time, .bool x.r.bare, .string x.r.key, .bool x.r.gone, .string x.r.value, .slice x.A x.r.heads.length x.c] 38)).cell? ⟨W.heap.size, 3, none⟩ = some (.int .i64 x.k.i) ∧ (W.alloc (.cells #[.int .i64 x.do_, .string x.k.g, .string x.k.t, .int .i64 x.k.i, .int .i64 x.at_, .int .i64 x.r.place, .int .i64 x.r.time, .bool x.r.bare, .string x.r.key, .bool x.r.gone, .string x.r.value, .slice x.A x.r.heads.length x.c] 38)).cell? ⟨W.heap.size, 4, none⟩ = some (.int .i64 x.at_) ∧ (W.alloc (.cells #[.int .i64 x.do_, .string x.k.g, .string x.k.t, .int .i64 x.k.i, .int .i64 x.at_, .int .i64 x.r.place, .int .i64 x.r.time, .bool x.r.bare, .string x.r.key, .bool x.r.gone, .string x.r.value, .slice x.A x.r.heads.length x.c] 38)).cell? ⟨W.heap.size, 5, none⟩ = some (.int .i64 x.r.place) ∧ (W.alloc (.cells #[.int .i64 x.do_, .string x.k.g, .string x.k.t, .int .i64 x.k.i, .int .i64 x.at_, .int .i64 x.r.place, .int .i64 x.r.time, .bool x.r.bare, .string x.r.key, .bool x.r.gone, .string x.r.value, .slice x.A x.r.heads.length x.c] 38)).cell? ⟨W.heap.size, 6, none⟩ = some (.int .i64 x.r.time) ∧ (W.alloc (.cells #[.int .i64 x.do_, .string x.k.g, .string x.k.t, .int .i64 x.k.i, .int .i64 x.at_, .int .i64 x.r.place, .int .i64 x.r.time, .bool x.r.bare, .string x.r.key, .bool x.r.gone, .string x.r.value, .slice x.A x.r.heads.length x.c] 38)).cell? ⟨W.heap.size, 7, none⟩ = some (.bool x.r.bare) ∧ (W.alloc (.cells #[.int .i64 x.do_, .string x.k.g, .string x.k.t, .int .i64 x.k.i, .int .i64 x.at_, .int .i64 x.r.place, .int .i64 x.r.time, .bool x.r.bare, .string x.r.key, .bool x.r.gone, .string x.r.value, .slice x.A x.r.heads.length x.c] 38)).cell? ⟨W.heap.size, 8, none⟩ = some (.string x.r.key) ∧ (W.alloc (.cells #[.int .i64 x.do_, .string x.k.g, .string x.k.t, .int .i64 x.k.i, .int .i64 x.at_, .int .i64 x.r.place, .int .i64 x.r.time, .bool x.r.bare, .string x.r.key, .bool x.r.gone, .string x.r.value, .slice x.A x.r.heads.length x.c] 38)).cell? ⟨W.heap.size, 9, none⟩ = some (.bool x.r.gone) ∧ (W.alloc (.cells #[.int .i64 x.do_, .string x.k.g, .string x.k.t, .int .i64 x.k.i, .int .i64 x.at_, .int .i64 x.r.place, .int .i64 x.r.time, .bool x.r.bare, .string x.r.key, .bool x.r.gone, .string x.r.value, .slice x.A x.r.heads.length x.c] 38)).cell? ⟨W.heap.size, 10, none⟩ = some (.string x.r.value) ∧ (W.alloc (.cells #[.int .i64 x.do_, .string x.k.g, .string x.k.t, .int .i64 x.k.i, .int .i64 x.at_, .int .i64 x.r.place, .int .i64 x.r.time, .bool x.r.bare, .string x.r.key, .bool x.r.gone, .string x.r.value, .slice x.A x.r.heads.length x.c] 38)).cell? ⟨W.heap.size, 11, none⟩ = some (.slice x.A x.r.heads.length x.c) := ⟨(hb0.cell 0).trans rfl, (hb0.cell 1).trans rfl, (hb0.cell 2).trans rfl, (hb0.cell 3).trans rfl, (hb0.cell 4).trans rfl, (hb0.cell 5).trans rfl, (hb0.cell 6).trans rfl, (hb0.cell 7).trans rfl, (hb0.cell 8).trans rfl, (hb0.cell 9).trans rfl, (hb0.cell 10).trans rfl, (hb0.cell 11).trans rfl⟩
  have hbl := hb0.lt
  obtain ⟨y0, y1, y2, yl, _, _, _⟩ := ky3 hb1
  clear hb0 hBA hBB hb1 h
  have n0 : (x.do_ == 0) = false := by rw [beq_eq_false_iff_ne]; exact h0
  have n1 : (x.do_ == 1) = false := by rw [beq_eq_false_iff_ne]; exact h1
  have n2 : (x.do_ == 2) = false := by rw [beq_eq_false_iff_ne]; exact h2
  have n3 : (x.do_ == 3) = false := by rw [beq_eq_false_iff_ne]; exact h3
  have n4 : (x.do_ == 4) = false := by rw [beq_eq_false_iff_ne]; exact h4
  have n5 : (x.do_ == 5) = false := by rw [beq_eq_false_iff_ne]; exact h5
  clear h0 h1 h2 h3 h4 h5
  go_enter Try.func10, Try.ntmps10
  go_wp2_with fail
  generalize ((W.alloc (.cells #[.int .i64 x.do_, .string x.k.g, .string x.k.t, .int .i64 x.k.i, .int .i64 x.at_, .int .i64 x.r.place, .int .i64 x.r.time, .bool x.r.bare, .string x.r.key, .bool x.r.gone, .string x.r.value, .slice x.A x.r.heads.length x.c] 38)).alloc (.cells #[.string x.k.g, .string x.k.t, .int .i64 x.k.i] 45)) = w0 at *
  generalize W.heap.size + 1 = q at *
  generalize W.heap.size = b at *
  clear a0 a1 a2 a3 a4 a5 a6 a7 a8 a9 a10 a11 hbl y0 y1 y2 yl hx
  have c1 := holds_c HS.out.pr
  with_reducible refine c1.mono ?_
  rintro en w1 ⟨rfl, hb⟩
  have H1 := Lib.hid (HS.out.later hb)
  clear hb c1 HS
  go_wp2_with fail
  go_ret
  exact ⟨rfl, _, H1.out.pr⟩
end Go.Proofs.Ytlkhfgkgngcakaa
/- The document's Same, at two readings of one record: true; by a contract. -/
namespace Go.Proofs.Ytlkhfgkgngcakaa
open Go.RowKit
set_option linter.unusedVariables false
theorem head_same (x y : ByteArray) (w : World) : (binOp .neq 88 (.agg #[.string x, .string y]) (.agg #[.string x, .string y])).run Try.prog w = .ok (.bool false) w := by
  simp [go_sem]
structure SameAt (W : World) (ca cb : Array Value) (w : World) : Prop where
  one : Box w W.heap.size 34 ca
  two : Box w (W.heap.size + 1) 34 cb
  bel : Below W.heap.size W w
theorem SameAt.start (W : World) (ca cb : Array Value) : SameAt W ca cb ((W.alloc (.cells ca 34)).alloc (.cells cb 34)) :=
  ⟨(Box.new _ _ _).alloc _, by have h := Box.new (W.alloc (.cells ca 34)) 34 cb; simpa using h, ((Below.refl _ _).alloc (Nat.le_refl _) _).alloc (by simp) _⟩
theorem SameAt.drewN {W w : World} {ca cb : Array Value} (h : SameAt W ca cb w) (n : Nat) : SameAt W ca cb (w.drewN n) := ⟨h.one.drewN n, h.two.drewN n, h.bel.trans ⟨rfl, rfl, rfl, Nat.le_refl _, fun _ _ => rfl⟩⟩
set_option maxHeartbeats 2000000 in
set_option maxRecDepth 100000 in
theorem rsame_c (r : Rec) (A B : Option Addr) (c d : Nat) (W : World) (hl : r.heads.length ≤ 1000) (hA : HIn W A r.heads) (hB : HIn W B r.heads) :
    Calls Try.prog 26 #[recV r A c, recV r B d] W (Good W (.bool true)) := by
  obtain ⟨place, time, bare, key, gone, value, heads⟩ := r
  have HA := Lib.hid hA
  have HB := Lib.hid hB
  simp only at HA HB
  clear hA hB
  unfold recV recC
  simp only at *
  have hs := fun x y w => head_same x y w
  go_enter Try.func26, Try.ntmps26
  go_wp2
  have HST : Hid (SameAt W #[.int .i64 place, .int .i64 time, .bool bare, .string key, .bool gone, .string value, .slice A heads.length c] #[.int .i64 place, .int .i64 time, .bool bare, .string key, .bool gone, .string value, .slice B heads.length d] ((W.alloc (.cells #[.int .i64 place, .int .i64 time, .bool bare, .string key, .bool gone, .string value, .slice A heads.length c] 34)).alloc (.cells #[.int .i64 place, .int .i64 time, .bool bare, .string key, .bool gone, .string value, .slice B heads.length d] 34))) := Lib.hid (SameAt.start W _ _)
  go_loopw [5] (fun i wr => ∃ k : Nat, i = .int .i64 k ∧ k ≤ heads.length ∧ SameAt W #[.int .i64 place, .int .i64 time, .bool bare, .string key, .bool gone, .string value, .slice A heads.length c] #[.int .i64 place, .int .i64 time, .bool bare, .string key, .bool gone, .string value, .slice B heads.length d] wr) (fun i _ => heads.length - (intOf i).toNat)
  case atStart => exact ⟨0, rfl, Nat.zero_le _, HST.out⟩
  case round =>
    obtain ⟨k, rfl, hkl, hS⟩ := hrel
    clear HST
    have x6 := (hS.one.cell 6).trans (show _ = some (Value.slice A heads.length c) from rfl)
    have y6 := (hS.two.cell 6).trans (show _ = some (Value.slice B heads.length d) from rfl)
    by_cases hk : k < heads.length
    · obtain ⟨b, off, rfl, hbl, q1, q2⟩ := (HA.out.below hS.bel).at_ hk
      obtain ⟨b', off', rfl, hbl', q1', q2'⟩ := (HB.out.below hS.bel).at_ hk
      have HS := Lib.hid hS
      clear hS
      have hki : (k : Int) < (heads.length : Int) := by omega
      have hk0 : (0 : Int) ≤ (k : Int) := by omega
      generalize heads[k].1 = z1 at *
      generalize heads[k].2 = z2 at *
      go_wp2
      go_quiet (fail)
      go_wp2
      go_roundw
      case rel => exact ⟨k + 1, by go_num, hk, HS.out.drewN _⟩
      case measure => simp [intOf]; omega
    · have hb := hS.bel
      clear hS
      go_wp2
      go_ret
      exact ⟨rfl, hb⟩
end Go.Proofs.Ytlkhfgkgngcakaa
/- offsets: the call that tells an entry and applies it, on both tables. No condition. -/
namespace Go.Proofs.Ytlkhfgkgngcakaa
open Go.RowKit Go.WideAt Go.Lib
set_option linter.unusedVariables false
/-- While it goes on: the records' boxes too. -/
structure StJ (W0 : World) (p g d : Nat) (room : Int) (F G : List KE) (x : OO) (b q : Nat) (cs : Array Value) (o1 o2 : Nat) (w : World) : Prop where
  st : StI W0 p g d room F G x b q w
  r1 : Box w o1 34 cs
  r2 : Box w o2 34 cs
theorem StJ.later {W0 w w' : World} {p g d b q o1 o2 : Nat} {room : Int} {F G : List KE} {x : OO} {cs : Array Value} (h : StJ W0 p g d room F G x b q cs o1 o2 w) (hb : Below w.heap.size w w') : StJ W0 p g d room F G x b q cs o1 o2 w' := ⟨h.st.later hb, h.r1.later hb, h.r2.later hb⟩
theorem StJ.prog {W0 w w' : World} {p g d b q o1 o2 : Nat} {room : Int} {F G K : List KE} {x : OO} {cs : Array Value} (h : StJ W0 p g d room F G x b q cs o1 o2 w) (hp : Pr W0 p g d room K G w') (ho : Off (fun i => i = g) w w') : StJ W0 p g d room K G x b q cs o1 o2 w' :=
  ⟨h.st.prog hp ho, h.r1.off ho (box_ne_map h.r1 h.st.pr.ot.is.map), h.r2.off ho (box_ne_map h.r2 h.st.pr.ot.is.map)⟩
theorem StJ.doc {W0 w w' : World} {p g d b q o1 o2 : Nat} {room : Int} {F G K : List KE} {x : OO} {cs : Array Value} (h : StJ W0 p g d room F G x b q cs o1 o2 w) (hp : Pr W0 p g d room F K w') (hk : KeepO badD w w') : StJ W0 p g d room F K x b q cs o1 o2 w' :=
  ⟨h.st.doc hp hk, hk.box h.r1 (by decide) (by decide), hk.box h.r2 (by decide) (by decide)⟩
theorem StJ.facts {W0 w : World} {p g d b q o1 o2 : Nat} {room : Int} {F G : List KE} {x : OO} {v0 v1 v2 v3 v4 v5 v6 : Value} (h : StJ W0 p g d room F G x b q #[v0, v1, v2, v3, v4, v5, v6] o1 o2 w) : w.cell? ⟨o1, 0, none⟩ = some v0 ∧ w.cell? ⟨o1, 1, none⟩ = some v1 ∧ w.cell? ⟨o1, 2, none⟩ = some v2 ∧ w.cell? ⟨o1, 3, none⟩ = some v3 ∧ w.cell? ⟨o1, 4, none⟩ = some v4 ∧ w.cell? ⟨o1, 5, none⟩ = some v5 ∧ w.cell? ⟨o1, 6, none⟩ = some v6 ∧ w.cell? ⟨o2, 0, none⟩ = some v0 ∧ w.cell? ⟨o2, 1, none⟩ = some v1 ∧ w.cell? ⟨o2, 2, none⟩ = some v2 ∧ w.cell? ⟨o2, 3, none⟩ = some v3 ∧ w.cell? ⟨o2, 4, none⟩ = some v4 ∧ w.cell? ⟨o2, 5, none⟩ = some v5 ∧ w.cell? ⟨o2, 6, none⟩ = some v6 :=
  ⟨(h.r1.cell 0).trans rfl, (h.r1.cell 1).trans rfl, (h.r1.cell 2).trans rfl, (h.r1.cell 3).trans rfl, (h.r1.cell 4).trans rfl, (h.r1.cell 5).trans rfl, (h.r1.cell 6).trans rfl, (h.r2.cell 0).trans rfl, (h.r2.cell 1).trans rfl, (h.r2.cell 2).trans rfl, (h.r2.cell 3).trans rfl, (h.r2.cell 4).trans rfl, (h.r2.cell 5).trans rfl, (h.r2.cell 6).trans rfl⟩
theorem enR_heads (k : KY) (a tm : Int) : (enR k a tm).heads = [] := by unfold enR; split <;> rfl
theorem enR_size (k : KY) (a tm : Int) : (enR k a tm).key.size ≤ 1152921504606846976 ∧ (enR k a tm).value.size ≤ 1152921504606846976 := by
  unfold enR
  split
  · rename_i h
    have := (okRec_parts (enRec_ok h)).2.1
    omega
  · exact ⟨by decide, by decide⟩
set_option maxHeartbeats 8000000 in
set_option maxRecDepth 100000 in
theorem step5 {W0 W : World} {p g d : Nat} {room : Int} {F : List KE} {x : OO} (h : Pr W0 p g d room F F W) (hx : OOk W0 x) (hd : x.do_ = 5) :
    Calls Try.prog 10 #[.pointer (some ⟨p, 0, none⟩), .pointer (some ⟨d, 0, none⟩), .agg #[.int .i64 x.do_, .string x.k.g, .string x.k.t, .int .i64 x.k.i, .int .i64 x.at_, .int .i64 x.r.place, .int .i64 x.r.time, .bool x.r.bare, .string x.r.key, .bool x.r.gone, .string x.r.value, .slice x.A x.r.heads.length x.c]] W (fun e w' => e = .returned (.bool true) ∧ ∃ K, Pr W0 p g d room K K w') := by
  have hky := hx.ky
  have hb0 := Box.new W 38 #[.int .i64 x.do_, .string x.k.g, .string x.k.t, .int .i64 x.k.i, .int .i64 x.at_, .int .i64 x.r.place, .int .i64 x.r.time, .bool x.r.bare, .string x.r.key, .bool x.r.gone, .string x.r.value, .slice x.A x.r.heads.length x.c]
  have hBA := (Below.refl W.heap.size W).alloc (Nat.le_refl _) (.cells #[.int .i64 x.do_, .string x.k.g, .string x.k.t, .int .i64 x.k.i, .int .i64 x.at_, .int .i64 x.r.place, .int .i64 x.r.time, .bool x.r.bare, .string x.r.key, .bool x.r.gone, .string x.r.value, .slice x.A x.r.heads.length x.c] 38)
  have hBB := (Below.refl (W.alloc (.cells #[.int .i64 x.do_, .string x.k.g, .string x.k.t, .int .i64 x.k.i, .int .i64 x.at_, .int .i64 x.r.place, .int .i64 x.r.time, .bool x.r.bare, .string x.r.key, .bool x.r.gone, .string x.r.value, .slice x.A x.r.heads.length x.c] 38)).heap.size (W.alloc (.cells #[.int .i64 x.do_, .string x.k.g, .string x.k.t, .int .i64 x.k.i, .int .i64 x.at_, .int .i64 x.r.place, .int .i64 x.r.time, .bool x.r.bare, .string x.r.key, .bool x.r.gone, .string x.r.value, .slice x.A x.r.heads.length x.c] 38))).alloc (Nat.le_refl _) (.cells #[.string x.k.g, .string x.k.t, .int .i64 x.k.i] 45)
  have hb1 := Box.new (W.alloc (.cells #[.int .i64 x.do_, .string x.k.g, .string x.k.t, .int .i64 x.k.i, .int .i64 x.at_, .int .i64 x.r.place, .int .i64 x.r.time, .bool x.r.bare, .string x.r.key, .bool x.r.gone, .string x.r.value, .slice x.A x.r.heads.length x.c] 38)) 45 #[.string x.k.g, .string x.k.t, .int .i64 x.k.i]
  rw [World.size_alloc] at hb1
  have HS := Lib.hid (show StI W0 p g d room F F x W.heap.size (W.heap.size + 1) _ from ⟨(h.later hBA).later hBB, hb0.later hBB, hb1⟩)
  have HX := Lib.hid hx
  obtain ⟨a0, a1, a2, a3, a4, a5, a6, a7, a8, a9, a10, a11⟩ : (W.alloc (.cells #[.int .i64 x.do_, .string x.k.g, .string x.k.t, .int .i64 x.k.i, .int .i64 x.at_, .int .i64 x.r.place, .int .i64 x.r.time, .bool x.r.bare, .string x.r.key, .bool x.r.gone, .string x.r.value, .slice x.A x.r.heads.length x.c] 38)).cell? ⟨W.heap.size, 0, none⟩ = some (.int .i64 x.do_) ∧ (W.alloc (.cells #[.int .i64 x.do_, .string x.k.g, .string x.k.t, .int .i64 x.k.i, .int .i64 x.at_, .int .i64 x.r.place, .int .i64 x.r.time, .bool x.r.bare, .string x.r.key, .bool x.r.gone, .string x.r.value, .slice x.A x.r.heads.length x.c] 38)).cell? ⟨W.heap.size, 1, none⟩ = some (.string x.k.g) ∧ (W.alloc (.cells #[.int .i64 x.do_, .string x.k.g, .string x.k.t, .int .i64 x.k.i, .int .i64 x.at_, .int .i64 x.r.place, .int .i64 x.r.time, .bool x.r.bare, .string x.r.key, .bool x.r.gone, .string x.r.value, .slice x.A x.r.heads.length x.c] 38)).cell? ⟨W.heap.size, 2, none⟩ = some (.string x.k.t) ∧ (W.alloc (.cells #[.int .i64 x.do_, .string x.k.g, .string x.k.t, .int .i64 x.k.i, .int .i64 x.at_, .int .i64 x.r.place, .int .i64 x.r.time, .bool x.r.bare, .string x.r.key, .bool x.r.gone, .string x.r.value, .slice x.A x.r.heads.length x.c] 38)).cell? ⟨W.heap.size, 3, none⟩ = some (.int .i64 x.k.i) ∧ (W.alloc (.cells #[.int .i64 x.do_, .string x.k.g, .string x.k.t, .int .i64 x.k.i, .int .i64 x.at_, .int .i64 x.r.place, .int .i64 x.r.time, .bool x.r.bare, .string x.r.key, .bool x.r.gone, .string x.r.value, .slice x.A x.r.heads.length x.c] 38)).cell? ⟨W.heap.size, 4, none⟩ = some (.int .i64 x.at_) ∧ (W.alloc (.cells #[.int .i64 x.do_, .string x.k.g, .string x.k.t, .int .i64 x.k.i, .int .i64 x.at_, .int .i64 x.r.place, .int .i64 x.r.time, .bool x.r.bare, .string x.r.key, .bool x.r.gone, .string x.r.value, .slice x.A x.r.heads.length x.c] 38)).cell? ⟨W.heap.size, 5, none⟩ = some (.int .i64 x.r.place) ∧ (W.alloc (.cells #[.int .i64 x.do_, .string x.k.g, .string x.k.t, .int .i64 x.k.i, .int .i64 x.at_, .int .i64 x.r.place, .int .i64 x.r.time, .bool x.r.bare, .string x.r.key, .bool x.r.gone, .string x.r.value, .slice x.A x.r.heads.length x.c] 38)).cell? ⟨W.heap.size, 6, none⟩ = some (.int .i64 x.r.time) ∧ (W.alloc (.cells #[.int .i64 x.do_, .string x.k.g, .string x.k.t, .int .i64 x.k.i, .int .i64 x.at_, .int .i64 x.r.place, .int .i64 x.r.time, .bool x.r.bare, .string x.r.key, .bool x.r.gone, .string x.r.value, .slice x.A x.r.heads.length x.c] 38)).cell? ⟨W.heap.size, 7, none⟩ = some (.bool x.r.bare) ∧ (W.alloc (.cells #[.int .i64 x.do_, .string x.k.g, .string x.k.t, .int .i64 x.k.i, .int .i64 x.at_, .int .i64 x.r.place, .int .i64 x.r.time, .bool x.r.bare, .string x.r.key, .bool x.r.gone, .string x.r.value, .slice x.A x.r.heads.length x.c] 38)).cell? ⟨W.heap.size, 8, none⟩ = some (.string x.r.key) ∧ (W.alloc (.cells #[.int .i64 x.do_, .string x.k.g, .string x.k.t, .int .i64 x.k.i, .int .i64 x.at_, .int .i64 x.r.place, .int .i64 x.r.time, .bool x.r.bare, .string x.r.key, .bool x.r.gone, .string x.r.value, .slice x.A x.r.heads.length x.c] 38)).cell? ⟨W.heap.size, 9, none⟩ = some (.bool x.r.gone) ∧ (W.alloc (.cells #[.int .i64 x.do_, .string x.k.g, .string x.k.t, .int .i64 x.k.i, .int .i64 x.at_, .int .i64 x.r.place, .int .i64 x.r.time, .bool x.r.bare, .string x.r.key, .bool x.r.gone, .string x.r.value, .slice x.A x.r.heads.length x.c] 38)).cell? ⟨W.heap.size, 10, none⟩ = some (.string x.r.value) ∧ (W.alloc (.cells #[.int .i64 x.do_, .string x.k.g, .string x.k.t, .int .i64 x.k.i, .int .i64 x.at_, .int .i64 x.r.place, .int .i64 x.r.time, .bool x.r.bare, .string x.r.key, .bool x.r.gone, .string x.r.value, .slice x.A x.r.heads.length x.c] 38)).cell? ⟨W.heap.size, 11, none⟩ = some (.slice x.A x.r.heads.length x.c) := ⟨(hb0.cell 0).trans rfl, (hb0.cell 1).trans rfl, (hb0.cell 2).trans rfl, (hb0.cell 3).trans rfl, (hb0.cell 4).trans rfl, (hb0.cell 5).trans rfl, (hb0.cell 6).trans rfl, (hb0.cell 7).trans rfl, (hb0.cell 8).trans rfl, (hb0.cell 9).trans rfl, (hb0.cell 10).trans rfl, (hb0.cell 11).trans rfl⟩
  have hbl := hb0.lt
  obtain ⟨y0, y1, y2, yl, _, _, _⟩ := ky3 hb1
  clear hb0 hBA hBB hb1 h
  rw [hd] at *
  have ce := fun w => entry_c x.k x.at_ 5 w
  have cd := fun w => dentry_c x.k x.at_ 5 w HX.out.g HX.out.t
  have hhd := enR_heads x.k x.at_ 5
  have hsz := enR_size x.k x.at_ 5
  have HE : Hid (enE x.k x.at_ 5 = 0 ∨ enE x.k x.at_ 5 = 1) := Lib.hid (by unfold enE; split; exact .inl rfl; exact .inr rfl)
  have HRI := Lib.hid (fun w => rin_nil w (enR x.k x.at_ 5) hhd hsz.1 hsz.2)
  have cs := fun w => rsame_c (enR x.k x.at_ 5) none none 0 0 w (by rw [hhd]; decide) (by rw [hhd]; exact HIn.nil _ _) (by rw [hhd]; exact HIn.nil _ _)
  generalize enE x.k x.at_ 5 = E at *
  generalize enR x.k x.at_ 5 = r at *
  unfold recV recC at ce cd cs
  unfold Good at *
  obtain ⟨pl, tm, ba, ke, go, va, hds⟩ := r
  dsimp only at *
  subst hhd
  dsimp only [List.length_nil] at *
  clear hsz
  go_enter Try.func10, Try.ntmps10
  go_wp2_with fail
  generalize ((W.alloc (.cells #[.int .i64 x.do_, .string x.k.g, .string x.k.t, .int .i64 x.k.i, .int .i64 x.at_, .int .i64 x.r.place, .int .i64 x.r.time, .bool x.r.bare, .string x.r.key, .bool x.r.gone, .string x.r.value, .slice x.A x.r.heads.length x.c] 38)).alloc (.cells #[.string x.k.g, .string x.k.t, .int .i64 x.k.i] 45)) = w0 at *
  generalize W.heap.size + 1 = q at *
  generalize W.heap.size = b at *
  clear a0 a1 a2 a3 a4 a5 a6 a7 a8 a9 a10 a11 hbl y0 y1 y2 yl hx
  with_reducible refine (ce _).mono ?_
  rintro en w1 ⟨rfl, hb⟩
  have H1 := Lib.hid (HS.out.later hb)
  clear hb ce HS
  have hBA := (Below.refl w1.heap.size w1).alloc (Nat.le_refl _) (.cells #[.int .i64 pl, .int .i64 tm, .bool ba, .string ke, .bool go, .string va, .slice none 0 0] 34)
  have HA := Lib.hid (H1.out.later hBA)
  have hr1 := Box.new w1 34 #[.int .i64 pl, .int .i64 tm, .bool ba, .string ke, .bool go, .string va, .slice none 0 0]
  have HR1 := Lib.hid hr1
  obtain ⟨a0, a1, a2, a3, a4, a5, a6, a7, a8, a9, a10, a11, y0, y1, y2⟩ := HA.out.facts
  obtain ⟨⟨r0, r1, r2, r3, r4, r5, r6⟩, ⟨f0, f1, f2, f3, f4, f5, f6⟩, rl⟩ := box7 (Box.new w1 34 #[.int .i64 0, .int .i64 0, .bool false, .string ⟨#[]⟩, .bool false, .string ⟨#[]⟩, .slice none 0 0])
  have hbl := HA.out.ob.lt
  clear hBA hr1 H1
  go_wp2_with fail
  with_reducible refine (cd _).mono ?_
  rintro en w2 ⟨rfl, hb⟩
  have H2 := Lib.hid (HA.out.later hb)
  have HR2 := Lib.hid (HR1.out.later hb)
  clear hb cd HA HR1 a0 a1 a2 a3 a4 a5 a6 a7 a8 a9 a10 a11 y0 y1 y2 r0 r1 r2 r3 r4 r5 r6 f0 f1 f2 f3 f4 f5 f6 rl hbl
  have hBA := (Below.refl w2.heap.size w2).alloc (Nat.le_refl _) (.cells #[.int .i64 pl, .int .i64 tm, .bool ba, .string ke, .bool go, .string va, .slice none 0 0] 34)
  have HJ0 := Lib.hid (show StJ W0 p g d room F F x b q #[.int .i64 pl, .int .i64 tm, .bool ba, .string ke, .bool go, .string va, .slice none 0 0] w1.heap.size w2.heap.size _ from ⟨H2.out.later hBA, HR2.out.later hBA, Box.new w2 34 #[.int .i64 pl, .int .i64 tm, .bool ba, .string ke, .bool go, .string va, .slice none 0 0]⟩)
  obtain ⟨⟨r0, r1, r2, r3, r4, r5, r6⟩, ⟨f0, f1, f2, f3, f4, f5, f6⟩, rl⟩ := box7 (Box.new w2 34 #[.int .i64 0, .int .i64 0, .bool false, .string ⟨#[]⟩, .bool false, .string ⟨#[]⟩, .slice none 0 0])
  obtain ⟨u0, u1, u2, u3, u4, u5, u6, v0, v1, v2, v3, v4, v5, v6⟩ := HJ0.out.facts
  have hel := beq_same E
  clear hBA HR2 H2
  go_wp2_with fail
  with_reducible refine (cs _).mono ?_
  rintro en w6 ⟨rfl, hb⟩
  have HJ1 := Lib.hid (HJ0.out.later hb)
  clear hb cs HJ0 r0 r1 r2 r3 r4 r5 r6 f0 f1 f2 f3 f4 f5 f6 rl u0 u1 u2 u3 u4 u5 u6 v0 v1 v2 v3 v4 v5 v6 hel
  generalize w2.heap.size = o2 at *
  generalize w1.heap.size = o1 at *
  go_wp2_with fail
  have HJ := Lib.hid (HJ1.out.later (Below.refl _ _).drew)
  clear HJ1
  have hS0 := HJ.out.facts
  rcases HE.out with rfl | rfl
  · skip
    refine wp_region_held_drew (S := (fun w => w.cell? ⟨o1, 0, none⟩ = some (.int .i64 pl) ∧ w.cell? ⟨o1, 1, none⟩ = some (.int .i64 tm) ∧ w.cell? ⟨o1, 2, none⟩ = some (.bool ba) ∧ w.cell? ⟨o1, 3, none⟩ = some (.string ke) ∧ w.cell? ⟨o1, 4, none⟩ = some (.bool go) ∧ w.cell? ⟨o1, 5, none⟩ = some (.string va) ∧ w.cell? ⟨o1, 6, none⟩ = some (.slice none 0 0) ∧ w.cell? ⟨o2, 0, none⟩ = some (.int .i64 pl) ∧ w.cell? ⟨o2, 1, none⟩ = some (.int .i64 tm) ∧ w.cell? ⟨o2, 2, none⟩ = some (.bool ba) ∧ w.cell? ⟨o2, 3, none⟩ = some (.string ke) ∧ w.cell? ⟨o2, 4, none⟩ = some (.bool go) ∧ w.cell? ⟨o2, 5, none⟩ = some (.string va) ∧ w.cell? ⟨o2, 6, none⟩ = some (.slice none 0 0))) (by kernel_rfl) hS0 (fun hHeld => ?_)
    refine takeW (i := 0) (v := ?v40) rfl (by kernel_rfl) (by kernel_rfl) (by kernel_rfl) (fun _ _ _ h => h) (by kernel_rfl) hHeld ?hy40 ?rest40
    case hy40 => (intro w hSw; (try dsimp only at hSw); go_simp; (try with_reducible rfl))
    try simp only [Act.put, List.setIfInBounds_toArray, List.set_cons_zero, List.set_cons_succ]
    refine takeW (i := 1) (v := ?v41) rfl (by kernel_rfl) (by kernel_rfl) (by kernel_rfl) (fun _ _ _ h => h) (by kernel_rfl) hHeld ?hy41 ?rest41
    case hy41 => (intro w hSw; (try dsimp only at hSw); go_simp; (try with_reducible rfl))
    try simp only [Act.put, List.setIfInBounds_toArray, List.set_cons_zero, List.set_cons_succ]
    refine takeW (i := 2) (v := ?v42) rfl (by kernel_rfl) (by kernel_rfl) (by kernel_rfl) (fun _ _ _ h => h) (by kernel_rfl) hHeld ?hy42 ?rest42
    case hy42 => (intro w hSw; (try dsimp only at hSw); go_simp; (try with_reducible rfl))
    try simp only [Act.put, List.setIfInBounds_toArray, List.set_cons_zero, List.set_cons_succ]
    refine takeW (i := 3) (v := ?v43) rfl (by kernel_rfl) (by kernel_rfl) (by kernel_rfl) (fun _ _ _ h => h) (by kernel_rfl) hHeld ?hy43 ?rest43
    case hy43 => (intro w hSw; (try dsimp only at hSw); go_simp; (try with_reducible rfl))
    try simp only [Act.put, List.setIfInBounds_toArray, List.set_cons_zero, List.set_cons_succ]
    refine takeW (i := 4) (v := ?v44) rfl (by kernel_rfl) (by kernel_rfl) (by kernel_rfl) (fun _ _ _ h => h) (by kernel_rfl) hHeld ?hy44 ?rest44
    case hy44 => (intro w hSw; (try dsimp only at hSw); go_simp; (try with_reducible rfl))
    try simp only [Act.put, List.setIfInBounds_toArray, List.set_cons_zero, List.set_cons_succ]
    refine takeW (i := 6) (v := ?v45) rfl (by kernel_rfl) (by kernel_rfl) (by kernel_rfl) (fun _ _ _ h => h) (by kernel_rfl) hHeld ?hy45 ?rest45
    case hy45 => (intro w hSw; (try dsimp only at hSw); go_simp; (try with_reducible rfl))
    try simp only [Act.put, List.setIfInBounds_toArray, List.set_cons_zero, List.set_cons_succ]
    refine takeW (i := 7) (v := ?v46) rfl (by kernel_rfl) (by kernel_rfl) (by kernel_rfl) (fun _ _ _ h => h) (by kernel_rfl) hHeld ?hy46 ?rest46
    case hy46 => (intro w hSw; (try dsimp only at hSw); go_simp; (try with_reducible rfl))
    try simp only [Act.put, List.setIfInBounds_toArray, List.set_cons_zero, List.set_cons_succ]
    refine wpAnyH_ready (rs := [5]) (by kernel_rfl) (by simp) ?_
    refine consL rfl (by kernel_rfl) (fun K hK => ?_) AllReadyH.nil
    go_simp
    have pa := p_apply HJ.out.st.pr ⟨pl, tm, ba, ke, go, va, []⟩ none 0 (HRI.out _)
    unfold recC at pa
    dsimp only [List.length_nil] at pa
    with_reducible refine pa.mono ?_
    clear pa
    rintro en w7 ⟨rfl, hp1, ho1⟩
    have H1 := Lib.hid (HJ.out.prog hp1 ho1)
    clear hp1 ho1
    refine hK.out _ _ (H1.out.facts) (fun hHeld => ?_)
    clear hK K
    try simp only [Act.put, List.setIfInBounds_toArray, List.set_cons_zero, List.set_cons_succ]
    refine wpAnyH_ready (rs := [8]) (by kernel_rfl) (by simp) ?_
    refine consL rfl (by kernel_rfl) (fun K hK => ?_) AllReadyH.nil
    go_simp
    have pa := d_apply H1.out.st.pr ⟨pl, tm, ba, ke, go, va, []⟩ none 0 (HRI.out _)
    unfold recC at pa
    dsimp only [List.length_nil] at pa
    with_reducible refine pa.mono ?_
    clear pa
    rintro en w8 ⟨rfl, hp2, hk2⟩
    have H2 := Lib.hid (H1.out.doc hp2 hk2)
    clear hp2 hk2
    refine hK.out _ _ (H2.out.facts) (fun hHeld => ?_)
    clear hK K
    try simp only [Act.put, List.setIfInBounds_toArray, List.set_cons_zero, List.set_cons_succ]
    refine takeW (i := 9) (v := ?v47) rfl (by kernel_rfl) (by kernel_rfl) (by kernel_rfl) (fun _ _ _ h => h) (by kernel_rfl) hHeld ?hy47 ?rest47
    case hy47 => (intro w hSw; (try dsimp only at hSw); go_simp; (try with_reducible rfl))
    try simp only [Act.put, List.setIfInBounds_toArray, List.set_cons_zero, List.set_cons_succ]
    refine takeW (i := 10) (v := ?v48) rfl (by kernel_rfl) (by kernel_rfl) (by kernel_rfl) (fun _ _ _ h => h) (by kernel_rfl) hHeld ?hy48 ?rest48
    case hy48 => (intro w hSw; (try dsimp only at hSw); go_simp; (try with_reducible rfl))
    try simp only [Act.put, List.setIfInBounds_toArray, List.set_cons_zero, List.set_cons_succ]
    refine takeW (i := 11) (v := ?v49) rfl (by kernel_rfl) (by kernel_rfl) (by kernel_rfl) (fun _ _ _ h => h) (by kernel_rfl) hHeld ?hy49 ?rest49
    case hy49 => (intro w hSw; (try dsimp only at hSw); go_simp; (try with_reducible rfl))
    try simp only [Act.put, List.setIfInBounds_toArray, List.set_cons_zero, List.set_cons_succ]
    refine wpAnyH_done (by kernel_rfl) ?_ _
    go_wp2_with fail
    go_ret
    exact ⟨rfl, _, H2.out.st.pr⟩
  · skip
    refine wp_region_held_drew (S := (fun w => w.cell? ⟨o1, 0, none⟩ = some (.int .i64 pl) ∧ w.cell? ⟨o1, 1, none⟩ = some (.int .i64 tm) ∧ w.cell? ⟨o1, 2, none⟩ = some (.bool ba) ∧ w.cell? ⟨o1, 3, none⟩ = some (.string ke) ∧ w.cell? ⟨o1, 4, none⟩ = some (.bool go) ∧ w.cell? ⟨o1, 5, none⟩ = some (.string va) ∧ w.cell? ⟨o1, 6, none⟩ = some (.slice none 0 0) ∧ w.cell? ⟨o2, 0, none⟩ = some (.int .i64 pl) ∧ w.cell? ⟨o2, 1, none⟩ = some (.int .i64 tm) ∧ w.cell? ⟨o2, 2, none⟩ = some (.bool ba) ∧ w.cell? ⟨o2, 3, none⟩ = some (.string ke) ∧ w.cell? ⟨o2, 4, none⟩ = some (.bool go) ∧ w.cell? ⟨o2, 5, none⟩ = some (.string va) ∧ w.cell? ⟨o2, 6, none⟩ = some (.slice none 0 0))) (by kernel_rfl) hS0 (fun hHeld => ?_)
    refine takeW (i := 0) (v := ?v50) rfl (by kernel_rfl) (by kernel_rfl) (by kernel_rfl) (fun _ _ _ h => h) (by kernel_rfl) hHeld ?hy50 ?rest50
    case hy50 => (intro w hSw; (try dsimp only at hSw); go_simp; (try with_reducible rfl))
    try simp only [Act.put, List.setIfInBounds_toArray, List.set_cons_zero, List.set_cons_succ]
    refine takeW (i := 1) (v := ?v51) rfl (by kernel_rfl) (by kernel_rfl) (by kernel_rfl) (fun _ _ _ h => h) (by kernel_rfl) hHeld ?hy51 ?rest51
    case hy51 => (intro w hSw; (try dsimp only at hSw); go_simp; (try with_reducible rfl))
    try simp only [Act.put, List.setIfInBounds_toArray, List.set_cons_zero, List.set_cons_succ]
    refine takeW (i := 2) (v := ?v52) rfl (by kernel_rfl) (by kernel_rfl) (by kernel_rfl) (fun _ _ _ h => h) (by kernel_rfl) hHeld ?hy52 ?rest52
    case hy52 => (intro w hSw; (try dsimp only at hSw); go_simp; (try with_reducible rfl))
    try simp only [Act.put, List.setIfInBounds_toArray, List.set_cons_zero, List.set_cons_succ]
    refine takeU (i := 3) rfl (by kernel_rfl) (by kernel_rfl) (by kernel_rfl) (fun _ _ _ h => h) (by kernel_rfl) hHeld ?_
    try simp only [Act.put, List.setIfInBounds_toArray, List.set_cons_zero, List.set_cons_succ]
    refine takeU (i := 4) rfl (by kernel_rfl) (by kernel_rfl) (by kernel_rfl) (fun _ _ _ h => h) (by kernel_rfl) hHeld ?_
    try simp only [Act.put, List.setIfInBounds_toArray, List.set_cons_zero, List.set_cons_succ]
    refine takeU (i := 5) rfl (by kernel_rfl) (by kernel_rfl) (by kernel_rfl) (fun _ _ _ h => h) (by kernel_rfl) hHeld ?_
    try simp only [Act.put, List.setIfInBounds_toArray, List.set_cons_zero, List.set_cons_succ]
    refine takeU (i := 6) rfl (by kernel_rfl) (by kernel_rfl) (by kernel_rfl) (fun _ _ _ h => h) (by kernel_rfl) hHeld ?_
    try simp only [Act.put, List.setIfInBounds_toArray, List.set_cons_zero, List.set_cons_succ]
    refine takeU (i := 7) rfl (by kernel_rfl) (by kernel_rfl) (by kernel_rfl) (fun _ _ _ h => h) (by kernel_rfl) hHeld ?_
    try simp only [Act.put, List.setIfInBounds_toArray, List.set_cons_zero, List.set_cons_succ]
    refine takeU (i := 8) rfl (by kernel_rfl) (by kernel_rfl) (by kernel_rfl) (fun _ _ _ h => h) (by kernel_rfl) hHeld ?_
    try simp only [Act.put, List.setIfInBounds_toArray, List.set_cons_zero, List.set_cons_succ]
    refine takeU (i := 9) rfl (by kernel_rfl) (by kernel_rfl) (by kernel_rfl) (fun _ _ _ h => h) (by kernel_rfl) hHeld ?_
    try simp only [Act.put, List.setIfInBounds_toArray, List.set_cons_zero, List.set_cons_succ]
    refine takeW (i := 10) (v := ?v53) rfl (by kernel_rfl) (by kernel_rfl) (by kernel_rfl) (fun _ _ _ h => h) (by kernel_rfl) hHeld ?hy53 ?rest53
    case hy53 => (intro w hSw; (try dsimp only at hSw); go_simp; (try with_reducible rfl))
    try simp only [Act.put, List.setIfInBounds_toArray, List.set_cons_zero, List.set_cons_succ]
    refine takeW (i := 11) (v := ?v54) rfl (by kernel_rfl) (by kernel_rfl) (by kernel_rfl) (fun _ _ _ h => h) (by kernel_rfl) hHeld ?hy54 ?rest54
    case hy54 => (intro w hSw; (try dsimp only at hSw); go_simp; (try with_reducible rfl))
    try simp only [Act.put, List.setIfInBounds_toArray, List.set_cons_zero, List.set_cons_succ]
    refine wpAnyH_done (by kernel_rfl) ?_ _
    go_wp2_with fail
    go_ret
    exact ⟨rfl, _, HJ.out.st.pr⟩
theorem step_c {W0 W : World} {p g d : Nat} {room : Int} {F : List KE} {x : OO} (h : Pr W0 p g d room F F W) (hx : OOk W0 x) :
    Calls Try.prog 10 #[.pointer (some ⟨p, 0, none⟩), .pointer (some ⟨d, 0, none⟩), .agg #[.int .i64 x.do_, .string x.k.g, .string x.k.t, .int .i64 x.k.i, .int .i64 x.at_, .int .i64 x.r.place, .int .i64 x.r.time, .bool x.r.bare, .string x.r.key, .bool x.r.gone, .string x.r.value, .slice x.A x.r.heads.length x.c]] W (fun e w' => e = .returned (.bool true) ∧ ∃ K, Pr W0 p g d room K K w') := by
  by_cases h0 : x.do_ = 0
  · exact step0 h hx h0
  by_cases h1 : x.do_ = 1
  · exact step1 h hx h1
  by_cases h2 : x.do_ = 2
  · exact step2 h hx h2
  by_cases h3 : x.do_ = 3
  · exact step3 h hx h3
  by_cases h4 : x.do_ = 4
  · exact step4 h hx h4
  by_cases h5 : x.do_ = 5
  · exact step5 h hx h5
  exact step6 h hx h0 h1 h2 h3 h4 h5
end Go.Proofs.Ytlkhfgkgngcakaa
/- offsets: the law OffsetsScripts walks to true. No condition. -/
namespace Go.Proofs.Ytlkhfgkgngcakaa
open Go.RowKit Go.WideAt Go.Lib
set_option linter.unusedVariables false
theorem pr_new {W0 w1 : World} {p g : Nat} {room : Int} (ho : OT W0 p g room [] w1) (hb : Below W0.heap.size W0 w1) :
    Pr W0 p g w1.heap.size room [] [] (w1.alloc (.cells #[.int .i64 room, .slice none 0 0] 31)) := by
  have hB := (Below.refl w1.heap.size w1).alloc (Nat.le_refl _) (.cells #[.int .i64 room, .slice none 0 0] 31)
  exact ⟨ho.later hB, ⟨[], none, 0, ⟨Box.new _ _ _, ⟨rfl, .inl ⟨rfl, rfl⟩⟩⟩, DL.nil⟩, ho.ok, hb.size, hb.trans (hB.mono hb.size)⟩
set_option maxHeartbeats 16000000 in
set_option maxRecDepth 100000 in
theorem offsetsScripts_walk (room : Int) (A0 : Option Addr) (c0 : Nat) (L : List OO) (W : World) (hw : (Lit.int .i64 room).wf = true) (hL : OosIn W A0 L) : Calls Try.prog 3 #[.int .i64 room, .slice A0 L.length c0] W (Yes W) := by
  have cl := fun w => live_c w
  unfold Yes at cl
  clear hw
  by_cases hr : witB room 1 10000 = true
  case neg =>
    have nw := new_no room (by simpa using hr) W
    have hr' : ¬ (1 ≤ room ∧ room ≤ 10000) := by
      intro e
      apply hr
      unfold witB
      rw [decide_eq_true e.1, decide_eq_true e.2]; rfl
    clear hr
    by_cases h1 : room < 1
    · clear hr'
      go_enter Try.func3, Try.ntmps3
      go_wp2_with fail
      with_reducible refine nw.mono ?_
      rintro en w1 ⟨rfl, rfl⟩
      go_wp2_with fail
      with_reducible refine (cl _).mono ?_
      rintro en w2 ⟨rfl, hb⟩
      go_wp2_with fail
      go_ret
      exact ⟨rfl, hb⟩
    · have h2 : 10000 < room := by omega
      clear hr'
      go_enter Try.func3, Try.ntmps3
      go_wp2_with fail
      with_reducible refine nw.mono ?_
      rintro en w1 ⟨rfl, rfl⟩
      go_wp2_with fail
      with_reducible refine (cl _).mono ?_
      rintro en w2 ⟨rfl, hb⟩
      go_wp2_with fail
      go_ret
      exact ⟨rfl, hb⟩
  case pos =>
    obtain ⟨h1, h2⟩ := wit_of hr
    have nw := new_v W W room h1 h2 (Nat.le_refl _)
    have g1 : ¬ room < 1 := by omega
    have g2 : ¬ 10000 < room := by omega
    obtain ⟨n, hnl⟩ : ∃ n, L.length = n := ⟨_, rfl⟩
    have HN := Lib.hid hnl
    have HL := Lib.hid hL
    rw [hnl]
    clear hnl hL hr h1 h2
    go_enter Try.func3, Try.ntmps3
    go_wp2_with fail
    with_reducible refine nw.mono ?_
    rintro en w1 ⟨p, g, rfl, hot, _, _, _, _, hb⟩
    have HS := Lib.hid (pr_new hot hb)
    clear hot hb nw
    go_wp2_with fail
    generalize w1.heap.size = d at *
    go_loopw [8] (fun i wr => ∃ k : Nat, i = .int .i64 k ∧ k ≤ n ∧ ∃ F, Pr W p g d room F F wr) (fun i _ => n - (intOf i).toNat)
    case atStart => exact ⟨0, rfl, Nat.zero_le _, _, HS.out⟩
    case round =>
      obtain ⟨k, rfl, hk, F, hP⟩ := hrel
      have HP := Lib.hid hP
      clear hP HS
      by_cases hkn : k < n
      · by_cases hk6 : k < 60
        · have hkl : k < L.length := by rw [HN.out]; exact hkn
          obtain ⟨x, hx⟩ : ∃ x, L[k]? = some x := ⟨_, List.getElem?_eq_getElem hkl⟩
          obtain ⟨_, _, -, -, -, hok⟩ := HL.out.at_ (Below.refl _ W) hx
          have HX := Lib.hid hok
          clear hok
          obtain ⟨b, off, rfl, hbl, hc, _⟩ := HL.out.at_ HP.out.below hx
          have z0 := (hc 0 (by decide)).trans (show _ = some (Value.int .i64 x.do_) from rfl)
          have z1 := (hc 1 (by decide)).trans (show _ = some (Value.string x.k.g) from rfl)
          have z2 := (hc 2 (by decide)).trans (show _ = some (Value.string x.k.t) from rfl)
          have z3 := (hc 3 (by decide)).trans (show _ = some (Value.int .i64 x.k.i) from rfl)
          have z4 := (hc 4 (by decide)).trans (show _ = some (Value.int .i64 x.at_) from rfl)
          have z5 := (hc 5 (by decide)).trans (show _ = some (Value.int .i64 x.r.place) from rfl)
          have z6 := (hc 6 (by decide)).trans (show _ = some (Value.int .i64 x.r.time) from rfl)
          have z7 := (hc 7 (by decide)).trans (show _ = some (Value.bool x.r.bare) from rfl)
          have z8 := (hc 8 (by decide)).trans (show _ = some (Value.string x.r.key) from rfl)
          have z9 := (hc 9 (by decide)).trans (show _ = some (Value.bool x.r.gone) from rfl)
          have z10 := (hc 10 (by decide)).trans (show _ = some (Value.string x.r.value) from rfl)
          have z11 := (hc 11 (by decide)).trans (show _ = some (Value.slice x.A x.r.heads.length x.c) from rfl)
          simp only [Nat.add_zero] at z0
          have z11' : wr.cell? ⟨b, off + k * 12 + 5 + 6, none⟩ = some (Value.slice x.A x.r.heads.length x.c) := z11
          have hK0 : (0 : Int) ≤ (k : Int) := by omega
          have hK1 : (k : Int) < (n : Int) := by omega
          have hK2 : (k : Int) < 60 := by omega
          clear hx hkl hc
          by_cases hh : (20 : Int) < (x.r.heads.length : Int)
          · go_wp2_with fail
            with_reducible refine (cl _).mono ?_
            rintro en w3 ⟨rfl, hb⟩
            have HB3 := Lib.hid (HP.out.below.trans (hb.mono HP.out.below.size))
            clear hb
            go_wp2_with fail
            go_ret
            exact ⟨rfl, HB3.out⟩
          · have cs := step_c HP.out HX.out
            go_wp2_with fail
            with_reducible refine cs.mono ?_
            rintro en w3 ⟨rfl, K, hP⟩
            have HP2 := Lib.hid hP
            clear hP cs z0 z1 z2 z3 z4 z5 z6 z7 z8 z9 z10 z11 z11' hbl HP
            have ch := holds_c HP2.out
            go_wp2_with fail
            with_reducible refine ch.mono ?_
            rintro en w4 ⟨rfl, hb⟩
            have HP3 := Lib.hid (HP2.out.later hb)
            clear hb ch HP2
            go_wp2_with fail
            exact ⟨⟨k + 1, by go_num, hkn, _, HP3.out⟩, by simp [intOf]; omega⟩
        · have hK2 : ¬ (k : Int) < 60 := by omega
          have hK1 : (k : Int) < (n : Int) := by omega
          go_wp2_with fail
          with_reducible refine (cl _).mono ?_
          rintro en w3 ⟨rfl, hb⟩
          have HB3 := Lib.hid (HP.out.below.trans (hb.mono HP.out.below.size))
          clear hb
          go_wp2_with fail
          go_ret
          exact ⟨rfl, HB3.out⟩
      · have hK1 : ¬ (k : Int) < (n : Int) := by omega
        go_wp2_with fail
        with_reducible refine (cl _).mono ?_
        rintro en w3 ⟨rfl, hb⟩
        have HB3 := Lib.hid (HP.out.below.trans (hb.mono HP.out.below.size))
        clear hb
        go_wp2_with fail
        go_ret
        exact ⟨rfl, HB3.out⟩
end Go.Proofs.Ytlkhfgkgngcakaa
