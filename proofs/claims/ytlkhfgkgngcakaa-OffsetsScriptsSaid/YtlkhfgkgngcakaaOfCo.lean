/- offsets: same, commitOf, by contracts. No condition but that the record may be read. -/
import Derived.Test.YtlkhfgkgngcakaaOfEn
import Derived.Test.YtlkhfgkgngcakaaRecEnc
namespace Go.Proofs.Ytlkhfgkgngcakaa
open Go.RowKit
set_option linter.unusedVariables false
theorem encS_c (r : Rec) (A : Option Addr) (c : Nat) (W : World) (hR : RIn W r A c) : Calls Try.prog 68 #[.agg #[.int .i64 r.place, .int .i64 r.time, .bool r.bare, .string r.key, .bool r.gone, .string r.value, .slice A r.heads.length c]] W (Good W (.tuple #[.string (encS r), .int .i64 (recE r)])) := enc_c r A c W hR
set_option maxHeartbeats 4000000 in
set_option maxRecDepth 100000 in
theorem same_c (r : Rec) (A : Option Addr) (c : Nat) (s : Rec) (B : Option Addr) (d : Nat) (W : World) (hR : RIn W r A c) (hS : RIn W s B d) :
    Calls Try.prog 57 #[recV r A c, recV s B d] W (Good W (.bool (decide (encS s = encS r)))) := by
  have hB1 := (Below.refl W.heap.size W).alloc (Nat.le_refl _) (.cells (recC r A c) 34)
  have hB2 := hB1.trans (((Below.refl (W.alloc (.cells (recC r A c) 34)).heap.size (W.alloc (.cells (recC r A c) 34))).alloc (Nat.le_refl _) (.cells (recC s B d) 34)).mono hB1.size)
  have hb1 := (Box.new W 34 (recC r A c)).alloc (.cells (recC s B d) 34)
  have hb2 := Box.new (W.alloc (.cells (recC r A c) 34)) 34 (recC s B d)
  rw [World.size_alloc] at hb2
  have c1 := encS_c r A c _ (hR.below hB2)
  have HS := Lib.hid (fun w (hb : Below W.heap.size W w) => encS_c s B d w (hS.below hb))
  have HB := Lib.hid hB2
  have HX := Lib.hid hb2
  obtain ⟨x, hx⟩ : ∃ x, encS r = x := ⟨_, rfl⟩
  obtain ⟨y, hy⟩ : ∃ y, encS s = y := ⟨_, rfl⟩
  rw [hx] at c1 ⊢
  rw [hy] at HS ⊢
  have HEQ := Lib.hid (str_eq y x)
  unfold recV recC at *
  obtain ⟨⟨z0, z1, z2, z3, z4, z5, z6⟩, _, zl⟩ := box7 hb1
  clear hB1 hB2 hb1 hb2 hR hS hx hy
  go_enter Try.func57, Try.ntmps57
  go_wp2_with fail
  with_reducible refine c1.mono ?_
  rintro en w1 ⟨rfl, hb⟩
  have HB1 := Lib.hid (HB.out.trans (hb.mono HB.out.size))
  have hb2 := HX.out.later hb
  obtain ⟨⟨u0, u1, u2, u3, u4, u5, u6⟩, _, ul⟩ := box7 hb2
  have c2 := HS.out w1 HB1.out
  clear hb hb2 z0 z1 z2 z3 z4 z5 z6 zl c1 HS
  go_wp2_with fail
  with_reducible refine c2.mono ?_
  rintro en w2 ⟨rfl, hb⟩
  have HB2 := Lib.hid (HB1.out.trans (hb.mono HB1.out.size))
  clear hb c2
  go_wp2_with fail
  go_ret
  exact ⟨by rw [← HEQ.out]; rfl, HB2.out⟩
/-- While a record is read: its box, the result's, the key's. -/
structure CoI (W : World) (r : Rec) (A : Option Addr) (c : Nat) (cs : Array Value) (w : World) : Prop where
  rb : Box w W.heap.size 34 #[.int .i64 r.place, .int .i64 r.time, .bool r.bare, .string r.key, .bool r.gone, .string r.value, .slice A r.heads.length c]
  res : Box w (W.heap.size + 1) 45 #[.string ⟨#[]⟩, .string ⟨#[]⟩, .int .i64 0]
  kb : Box w (W.heap.size + 1 + 1) 45 cs
  below : Below W.heap.size W w
theorem CoI.later {W w w' : World} {r : Rec} {A : Option Addr} {c : Nat} {cs : Array Value} (h : CoI W r A c cs w) (hb : Below w.heap.size w w') : CoI W r A c cs w' := ⟨h.rb.later hb, h.res.later hb, h.kb.later hb, h.below.trans (hb.mono h.below.size)⟩
theorem CoI.set {W w : World} {r : Rec} {A : Option Addr} {c : Nat} {cs : Array Value} (h : CoI W r A c cs w) (i : Nat) (u : Value) : CoI W r A c (cs.setIfInBounds i u) (w.setCell ⟨W.heap.size + 1 + 1, i, none⟩ u) :=
  ⟨h.rb.far (by show W.heap.size ≠ W.heap.size + 1 + 1; omega) u, h.res.far (by show W.heap.size + 1 ≠ W.heap.size + 1 + 1; omega) u, h.kb.set i u, h.below.trans ((Off.one w ⟨W.heap.size + 1 + 1, i, none⟩ u).below h.below.size (fun j hj => by have e : j = W.heap.size + 1 + 1 := hj; omega))⟩
theorem CoI.start (W : World) (r : Rec) (A : Option Addr) (c : Nat) : CoI W r A c #[.string ⟨#[]⟩, .string ⟨#[]⟩, .int .i64 0] (((W.alloc (.cells #[.int .i64 r.place, .int .i64 r.time, .bool r.bare, .string r.key, .bool r.gone, .string r.value, .slice A r.heads.length c] 34)).alloc (.cells #[.string ⟨#[]⟩, .string ⟨#[]⟩, .int .i64 0] 45)).alloc (.cells #[.string ⟨#[]⟩, .string ⟨#[]⟩, .int .i64 0] 45)) := by
  have a1 := (Below.refl W.heap.size W).alloc (Nat.le_refl _) (.cells #[.int .i64 r.place, .int .i64 r.time, .bool r.bare, .string r.key, .bool r.gone, .string r.value, .slice A r.heads.length c] 34)
  have a2 := (Below.refl (W.alloc (.cells #[.int .i64 r.place, .int .i64 r.time, .bool r.bare, .string r.key, .bool r.gone, .string r.value, .slice A r.heads.length c] 34)).heap.size (W.alloc (.cells #[.int .i64 r.place, .int .i64 r.time, .bool r.bare, .string r.key, .bool r.gone, .string r.value, .slice A r.heads.length c] 34))).alloc (Nat.le_refl _) (.cells #[.string ⟨#[]⟩, .string ⟨#[]⟩, .int .i64 0] 45)
  have a3 := (Below.refl ((W.alloc (.cells #[.int .i64 r.place, .int .i64 r.time, .bool r.bare, .string r.key, .bool r.gone, .string r.value, .slice A r.heads.length c] 34)).alloc (.cells #[.string ⟨#[]⟩, .string ⟨#[]⟩, .int .i64 0] 45)).heap.size ((W.alloc (.cells #[.int .i64 r.place, .int .i64 r.time, .bool r.bare, .string r.key, .bool r.gone, .string r.value, .slice A r.heads.length c] 34)).alloc (.cells #[.string ⟨#[]⟩, .string ⟨#[]⟩, .int .i64 0] 45))).alloc (Nat.le_refl _) (.cells #[.string ⟨#[]⟩, .string ⟨#[]⟩, .int .i64 0] 45)
  have b1 := ((Box.new W 34 #[.int .i64 r.place, .int .i64 r.time, .bool r.bare, .string r.key, .bool r.gone, .string r.value, .slice A r.heads.length c]).later a2).later a3
  have b2 := (Box.new (W.alloc (.cells #[.int .i64 r.place, .int .i64 r.time, .bool r.bare, .string r.key, .bool r.gone, .string r.value, .slice A r.heads.length c] 34)) 45 #[.string ⟨#[]⟩, .string ⟨#[]⟩, .int .i64 0]).later a3
  have b3 := Box.new ((W.alloc (.cells #[.int .i64 r.place, .int .i64 r.time, .bool r.bare, .string r.key, .bool r.gone, .string r.value, .slice A r.heads.length c] 34)).alloc (.cells #[.string ⟨#[]⟩, .string ⟨#[]⟩, .int .i64 0] 45)) 45 #[.string ⟨#[]⟩, .string ⟨#[]⟩, .int .i64 0]
  rw [World.size_alloc] at b2
  rw [World.size_alloc, World.size_alloc] at b3
  exact ⟨b1, b2, b3, (a1.trans (a2.mono (by simp))).trans (a3.mono (by simp; omega))⟩
def set3 (w : World) (b : Nat) (v0 v1 v2 : Value) : World := ((w.setCell ⟨b, 0, none⟩ v0).setCell ⟨b, 1, none⟩ v1).setCell ⟨b, 2, none⟩ v2
theorem set3_box {w : World} {b : Nat} {t : TypeId} {z0 z1 z2 : Value} (h : Box w b t #[z0, z1, z2]) (v0 v1 v2 : Value) : Box (set3 w b v0 v1 v2) b t #[v0, v1, v2] := ((h.set 0 v0).set 1 v1).set 2 v2
theorem set3_off (w : World) (b : Nat) (v0 v1 v2 : Value) : Off (· = b) w (set3 w b v0 v1 v2) := by
  have h0 := Off.refl (· = b) w
  have h1 := h0.set (p := ⟨b, 0, none⟩) (.inl rfl) v0
  have h2 := h1.set (p := ⟨b, 1, none⟩) (.inl rfl) v1
  exact h2.set (p := ⟨b, 2, none⟩) (.inl rfl) v2
theorem CoI.fin {W w : World} {r : Rec} {A : Option Addr} {c : Nat} {cs : Array Value} (h : CoI W r A c cs w) (v0 v1 v2 : Value) : Box (set3 w (W.heap.size + 1) v0 v1 v2) (W.heap.size + 1) 45 #[v0, v1, v2] ∧ Below W.heap.size W (set3 w (W.heap.size + 1) v0 v1 v2) :=
  ⟨set3_box h.res _ _ _, h.below.trans ((set3_off w (W.heap.size + 1) _ _ _).below h.below.size (fun k hk => by omega))⟩
theorem co_result {w : World} (g : Nat) {a : Int} {b : Bool} {v0 v1 v2 : Value} (h : Box w g 45 #[v0, v1, v2]) (tmps : Array Value) (ht : (tmps[2]?).getD undef = .pointer (some ⟨g, 0, none⟩)) (ha : (tmps[3]?).getD undef = .int .i64 a) (hb : (tmps[4]?).getD undef = .bool b) :
    (results Try.f35 tmps).run Try.prog w = .ok (.tuple #[.agg #[v0, v1, v2], .int .i64 a, .bool b]) w := by
  have c0 := (h.cell 0).trans (show _ = some v0 from rfl)
  have c1 := (h.cell 1).trans (show _ = some v1 from rfl)
  have c2 := (h.cell 2).trans (show _ = some v2 from rfl)
  simp [results, Try.results35, go_sem, ht, ha, hb, c0, c1, c2]
def cmV (r : Rec) : Value := if cmOk r = true then .tuple #[.agg #[.string (cmK r).g, .string (cmK r).t, .int .i64 (cmK r).i], .int .i64 (cmA r), .bool true] else .tuple #[.agg #[.string ⟨#[]⟩, .string ⟨#[]⟩, .int .i64 0], .int .i64 0, .bool false]
set_option maxHeartbeats 8000000 in
set_option maxRecDepth 100000 in
theorem cm_bad_g (r : Rec) (A : Option Addr) (c : Nat) (W : World) (hR : RIn W r A c) (hgone : r.gone = true) (hE : enOk (cmK r) (cmA r) r.time = false) : Calls Try.prog 35 #[.agg #[.int .i64 r.place, .int .i64 r.time, .bool r.bare, .string r.key, .bool r.gone, .string r.value, .slice A r.heads.length c]] W (Good W (cmV r)) := by
  obtain ⟨place, time, bare, key, gone, value, heads⟩ := r
  simp only at hgone
  subst hgone
  have H := Lib.hid (CoI.start W (⟨place, time, bare, key, true, value, heads⟩ : Rec) A c)
  have HA : cmA (⟨place, time, bare, key, true, value, heads⟩ : Rec) = -1 := by unfold cmA; rfl
  have HV : Hid (cmV (⟨place, time, bare, key, true, value, heads⟩ : Rec) = .tuple #[.agg #[.string ⟨#[]⟩, .string ⟨#[]⟩, .int .i64 0], .int .i64 0, .bool false]) := Lib.hid (by unfold cmV; rw [if_neg (by unfold cmOk; rw [hE]; simp)])
  have t1 := fun w => take_c key 0 100 w (show key.size ≤ _ from hR.key) (by omega)
  have t2 := fun w => take_c key (takeG key 0 100).2.1 100 w (show key.size ≤ _ from hR.key) (by omega)
  have t3 := fun w => get_c key (takeG key (takeG key 0 100).2.1 100).2.1 w (show key.size ≤ _ from hR.key)
  have t4 := fun w => get_c value 0 w (show value.size ≤ _ from hR.value)
  have cE : ∀ w, Calls Try.prog 18 #[.agg #[.string (cmK (⟨place, time, bare, key, true, value, heads⟩ : Rec)).g, .string (cmK (⟨place, time, bare, key, true, value, heads⟩ : Rec)).t, .int .i64 (cmK (⟨place, time, bare, key, true, value, heads⟩ : Rec)).i], .int .i64 (-1), .int .i64 time] w (Good w (.tuple #[.agg #[.int .i64 0, .int .i64 0, .bool false, .string ⟨#[]⟩, .bool false, .string ⟨#[]⟩, .slice none 0 0], .int .i64 1])) := fun w => by
    have h := entry_c (cmK (⟨place, time, bare, key, true, value, heads⟩ : Rec)) ((-1)) time w
    rw [HA] at hE
    unfold enR enE at h
    rw [if_neg (by rw [hE]; decide), if_neg (by rw [hE]; decide)] at h
    exact h
  clear HA
  have HG : (takeG key 0 100).1 = (cmK (⟨place, time, bare, key, true, value, heads⟩ : Rec)).g ∧ (takeG key (takeG key 0 100).2.1 100).1 = (cmK (⟨place, time, bare, key, true, value, heads⟩ : Rec)).t ∧ (getG key (takeG key (takeG key 0 100).2.1 100).2.1).1 = (cmK (⟨place, time, bare, key, true, value, heads⟩ : Rec)).i := ⟨rfl, rfl, rfl⟩
  unfold Sri at t1 t2
  unfold Tri at t3 t4
  rw [HG.1] at t1
  rw [HG.2.1] at t2
  rw [HG.2.2] at t3
  clear HG
  generalize (cmK (⟨place, time, bare, key, true, value, heads⟩ : Rec)) = K at *
  obtain ⟨Kg, Kt, Ki⟩ := K
  simp only at cE t1 t2 t3
  generalize (getG key (takeG key (takeG key 0 100).2.1 100).2.1).2.2 = e3 at *
  generalize (getG key (takeG key (takeG key 0 100).2.1 100).2.1).2.1 = p3 at *
  generalize (takeG key (takeG key 0 100).2.1 100).2.2 = e2 at *
  generalize (takeG key (takeG key 0 100).2.1 100).2.1 = p2 at *
  generalize (takeG key 0 100).2.2 = e1 at *
  generalize (takeG key 0 100).2.1 = p1 at *
  generalize (getG value 0).1 = AT at *
  generalize (getG value 0).2.1 = p4 at *
  generalize (getG value 0).2.2 = e4 at *
  obtain ⟨⟨r0, r1, r2, r3, r4, r5, r6⟩, _, rl⟩ := box7 H.out.rb
  obtain ⟨y0, y1, y2, yl, g0, g1, g2⟩ := ky3 H.out.kb
  dsimp only at *
  go_enter Try.func35, Try.ntmps35
  go_wp2_with fail
  with_reducible refine (t1 _).mono ?_
  rintro en w1 ⟨rfl, hb⟩
  have H1 := Lib.hid (((H.out.later hb)).set 0 (.string Kg))
  have hk := (H.out.later hb).kb
  have hr := (H.out.later hb).rb
  clear r0 r1 r2 r3 r4 r5 r6 rl y0 y1 y2 yl g0 g1 g2 hb H t1
  obtain ⟨y0, y1, y2, yl, g0, g1, g2⟩ := ky3 hk
  obtain ⟨⟨r0, r1, r2, r3, r4, r5, r6⟩, _, rl⟩ := box7 hr
  clear hk hr
  dsimp only at r0 r1 r2 r3 r4 r5 r6 y0 y1 y2
  go_wp2_with fail
  with_reducible refine (t2 _).mono ?_
  generalize (w1.setCell ⟨W.heap.size + 1 + 1, 0, none⟩ (.string Kg)) = w1' at *
  rintro en w2 ⟨rfl, hb⟩
  have H2 := Lib.hid (((H1.out.later hb)).set 1 (.string Kt))
  have hk := (H1.out.later hb).kb
  have hr := (H1.out.later hb).rb
  clear r0 r1 r2 r3 r4 r5 r6 rl y0 y1 y2 yl g0 g1 g2 hb H1 t2
  obtain ⟨y0, y1, y2, yl, g0, g1, g2⟩ := ky3 hk
  obtain ⟨⟨r0, r1, r2, r3, r4, r5, r6⟩, _, rl⟩ := box7 hr
  clear hk hr
  dsimp only at r0 r1 r2 r3 r4 r5 r6 y0 y1 y2
  go_wp2_with fail
  with_reducible refine (t3 _).mono ?_
  generalize (w2.setCell ⟨W.heap.size + 1 + 1, 1, none⟩ (.string Kt)) = w2' at *
  rintro en w3 ⟨rfl, rfl⟩
  have H3 := Lib.hid (H2.out.set 2 (.int .i64 Ki))
  have hk := H2.out.kb
  have hr := H2.out.rb
  clear r0 r1 r2 r3 r4 r5 r6 rl y0 y1 y2 yl g0 g1 g2 H2 t3
  obtain ⟨y0, y1, y2, yl, g0, g1, g2⟩ := ky3 (v0 := .string Kg) (v1 := .string Kt) (v2 := .int .i64 0) hk
  obtain ⟨⟨r0, r1, r2, r3, r4, r5, r6⟩, _, rl⟩ := box7 hr
  clear hk hr
  dsimp only at r0 r1 r2 r3 r4 r5 r6 y0 y1 y2
  go_wp2_with fail
  with_reducible refine (cE _).mono ?_
  generalize (w2'.setCell ⟨W.heap.size + 1 + 1, 2, none⟩ (.int .i64 Ki)) = w3 at *
  rintro en w5 ⟨rfl, hb⟩
  have H5 := Lib.hid (H3.out.later hb)
  clear hb cE H3
  clear r0 r1 r2 r3 r4 r5 r6 rl y0 y1 y2 yl g0 g1 g2
  obtain ⟨y0, y1, y2, yl, g0, g1, g2⟩ := ky3 (v0 := .string Kg) (v1 := .string Kt) (v2 := .int .i64 Ki) H5.out.kb
  obtain ⟨⟨r0, r1, r2, r3, r4, r5, r6⟩, _, rl⟩ := box7 H5.out.rb
  obtain ⟨q0, q1, q2, ql, m0, m1, m2⟩ := ky3 H5.out.res
  dsimp only at r0 r1 r2 r3 r4 r5 r6
  have hf := Lib.hid (H5.out.fin (.string ⟨#[]⟩) (.string ⟨#[]⟩) (.int .i64 0))
  go_wp2_with fail
  refine bodyPost_ret (v := .tuple #[.agg #[.string ⟨#[]⟩, .string ⟨#[]⟩, .int .i64 0], .int .i64 0, .bool false]) ?_ rfl ⟨by rw [HV.out], hf.out.2.trans (((Below.refl _ _).alloc (Nat.le_refl _) _).mono hf.out.2.size)⟩
  exact co_result _ (hf.out.1.alloc _) _ rfl rfl rfl
set_option maxHeartbeats 8000000 in
set_option maxRecDepth 100000 in
theorem cm_yes_g (r : Rec) (A : Option Addr) (c : Nat) (W : World) (hR : RIn W r A c) (hgone : r.gone = true) (hE : enOk (cmK r) (cmA r) r.time = true) (hS : decide (encS r = encS (enRec (cmK r) (cmA r) r.time)) = true) : Calls Try.prog 35 #[.agg #[.int .i64 r.place, .int .i64 r.time, .bool r.bare, .string r.key, .bool r.gone, .string r.value, .slice A r.heads.length c]] W (Good W (cmV r)) := by
  obtain ⟨place, time, bare, key, gone, value, heads⟩ := r
  simp only at hgone
  subst hgone
  have H := Lib.hid (CoI.start W (⟨place, time, bare, key, true, value, heads⟩ : Rec) A c)
  have HA : cmA (⟨place, time, bare, key, true, value, heads⟩ : Rec) = -1 := by unfold cmA; rfl
  have HV : Hid (cmV (⟨place, time, bare, key, true, value, heads⟩ : Rec) = .tuple #[.agg #[.string (cmK (⟨place, time, bare, key, true, value, heads⟩ : Rec)).g, .string (cmK (⟨place, time, bare, key, true, value, heads⟩ : Rec)).t, .int .i64 (cmK (⟨place, time, bare, key, true, value, heads⟩ : Rec)).i], .int .i64 (-1), .bool true]) := Lib.hid (by unfold cmV; rw [if_pos (by unfold cmOk; rw [hE, hS]; rfl), HA])
  have t1 := fun w => take_c key 0 100 w (show key.size ≤ _ from hR.key) (by omega)
  have t2 := fun w => take_c key (takeG key 0 100).2.1 100 w (show key.size ≤ _ from hR.key) (by omega)
  have t3 := fun w => get_c key (takeG key (takeG key 0 100).2.1 100).2.1 w (show key.size ≤ _ from hR.key)
  have t4 := fun w => get_c value 0 w (show value.size ≤ _ from hR.value)
  rw [HA] at hE hS
  have hsz := (okRec_parts (enRec_ok hE)).2.1
  have cE : ∀ w, Calls Try.prog 18 #[.agg #[.string (cmK (⟨place, time, bare, key, true, value, heads⟩ : Rec)).g, .string (cmK (⟨place, time, bare, key, true, value, heads⟩ : Rec)).t, .int .i64 (cmK (⟨place, time, bare, key, true, value, heads⟩ : Rec)).i], .int .i64 (-1), .int .i64 time] w (Good w (.tuple #[.agg #[.int .i64 0, .int .i64 time, .bool false, .string ⟨(enKey (cmK (⟨place, time, bare, key, true, value, heads⟩ : Rec))).toArray⟩, .bool (decide (((-1) : Int) = -1)), .string (if ((-1) : Int) = -1 then ⟨#[]⟩ else ⟨(putL (-1)).toArray⟩), .slice none 0 0], .int .i64 0])) := fun w => by
    have h := entry_c (cmK (⟨place, time, bare, key, true, value, heads⟩ : Rec)) ((-1)) time w
    unfold enR enE at h
    rw [if_pos hE, if_pos hE] at h
    exact h
  have cS : ∀ w, Below W.heap.size W w → Calls Try.prog 57 #[.agg #[.int .i64 0, .int .i64 time, .bool false, .string ⟨(enKey (cmK (⟨place, time, bare, key, true, value, heads⟩ : Rec))).toArray⟩, .bool (decide (((-1) : Int) = -1)), .string (if ((-1) : Int) = -1 then ⟨#[]⟩ else ⟨(putL (-1)).toArray⟩), .slice none 0 0], .agg #[.int .i64 place, .int .i64 time, .bool bare, .string key, .bool true, .string value, .slice A heads.length c]] w (Good w (.bool true)) := fun w hb => by
    have h := same_c (enRec (cmK (⟨place, time, bare, key, true, value, heads⟩ : Rec)) ((-1)) time) none 0 (⟨place, time, bare, key, true, value, heads⟩ : Rec) A c w (rin_nil w _ rfl (Nat.le_trans hsz.1 (by decide)) (Nat.le_trans hsz.2 (by decide))) (hR.below hb)
    rw [hS] at h
    exact h
  clear hE hS hsz
  clear HA
  have HG : (takeG key 0 100).1 = (cmK (⟨place, time, bare, key, true, value, heads⟩ : Rec)).g ∧ (takeG key (takeG key 0 100).2.1 100).1 = (cmK (⟨place, time, bare, key, true, value, heads⟩ : Rec)).t ∧ (getG key (takeG key (takeG key 0 100).2.1 100).2.1).1 = (cmK (⟨place, time, bare, key, true, value, heads⟩ : Rec)).i := ⟨rfl, rfl, rfl⟩
  unfold Sri at t1 t2
  unfold Tri at t3 t4
  rw [HG.1] at t1
  rw [HG.2.1] at t2
  rw [HG.2.2] at t3
  clear HG
  generalize (⟨(enKey (cmK (⟨place, time, bare, key, true, value, heads⟩ : Rec))).toArray⟩ : ByteArray) = KT at *
  generalize (decide ((-1 : Int) = -1)) = GB at *
  generalize (if (-1 : Int) = -1 then (⟨#[]⟩ : ByteArray) else ⟨(putL (-1)).toArray⟩) = VT at *
  generalize (cmK (⟨place, time, bare, key, true, value, heads⟩ : Rec)) = K at *
  obtain ⟨Kg, Kt, Ki⟩ := K
  simp only at cE t1 t2 t3
  generalize (getG key (takeG key (takeG key 0 100).2.1 100).2.1).2.2 = e3 at *
  generalize (getG key (takeG key (takeG key 0 100).2.1 100).2.1).2.1 = p3 at *
  generalize (takeG key (takeG key 0 100).2.1 100).2.2 = e2 at *
  generalize (takeG key (takeG key 0 100).2.1 100).2.1 = p2 at *
  generalize (takeG key 0 100).2.2 = e1 at *
  generalize (takeG key 0 100).2.1 = p1 at *
  generalize (getG value 0).1 = AT at *
  generalize (getG value 0).2.1 = p4 at *
  generalize (getG value 0).2.2 = e4 at *
  obtain ⟨⟨r0, r1, r2, r3, r4, r5, r6⟩, _, rl⟩ := box7 H.out.rb
  obtain ⟨y0, y1, y2, yl, g0, g1, g2⟩ := ky3 H.out.kb
  dsimp only at *
  go_enter Try.func35, Try.ntmps35
  go_wp2_with fail
  with_reducible refine (t1 _).mono ?_
  rintro en w1 ⟨rfl, hb⟩
  have H1 := Lib.hid (((H.out.later hb)).set 0 (.string Kg))
  have hk := (H.out.later hb).kb
  have hr := (H.out.later hb).rb
  clear r0 r1 r2 r3 r4 r5 r6 rl y0 y1 y2 yl g0 g1 g2 hb H t1
  obtain ⟨y0, y1, y2, yl, g0, g1, g2⟩ := ky3 hk
  obtain ⟨⟨r0, r1, r2, r3, r4, r5, r6⟩, _, rl⟩ := box7 hr
  clear hk hr
  dsimp only at r0 r1 r2 r3 r4 r5 r6 y0 y1 y2
  go_wp2_with fail
  with_reducible refine (t2 _).mono ?_
  generalize (w1.setCell ⟨W.heap.size + 1 + 1, 0, none⟩ (.string Kg)) = w1' at *
  rintro en w2 ⟨rfl, hb⟩
  have H2 := Lib.hid (((H1.out.later hb)).set 1 (.string Kt))
  have hk := (H1.out.later hb).kb
  have hr := (H1.out.later hb).rb
  clear r0 r1 r2 r3 r4 r5 r6 rl y0 y1 y2 yl g0 g1 g2 hb H1 t2
  obtain ⟨y0, y1, y2, yl, g0, g1, g2⟩ := ky3 hk
  obtain ⟨⟨r0, r1, r2, r3, r4, r5, r6⟩, _, rl⟩ := box7 hr
  clear hk hr
  dsimp only at r0 r1 r2 r3 r4 r5 r6 y0 y1 y2
  go_wp2_with fail
  with_reducible refine (t3 _).mono ?_
  generalize (w2.setCell ⟨W.heap.size + 1 + 1, 1, none⟩ (.string Kt)) = w2' at *
  rintro en w3 ⟨rfl, rfl⟩
  have H3 := Lib.hid (H2.out.set 2 (.int .i64 Ki))
  have hk := H2.out.kb
  have hr := H2.out.rb
  clear r0 r1 r2 r3 r4 r5 r6 rl y0 y1 y2 yl g0 g1 g2 H2 t3
  obtain ⟨y0, y1, y2, yl, g0, g1, g2⟩ := ky3 (v0 := .string Kg) (v1 := .string Kt) (v2 := .int .i64 0) hk
  obtain ⟨⟨r0, r1, r2, r3, r4, r5, r6⟩, _, rl⟩ := box7 hr
  clear hk hr
  dsimp only at r0 r1 r2 r3 r4 r5 r6 y0 y1 y2
  go_wp2_with fail
  with_reducible refine (cE _).mono ?_
  generalize (w2'.setCell ⟨W.heap.size + 1 + 1, 2, none⟩ (.int .i64 Ki)) = w3 at *
  rintro en w5 ⟨rfl, hb⟩
  have H5 := Lib.hid (H3.out.later hb)
  clear hb cE H3
  clear r0 r1 r2 r3 r4 r5 r6 rl y0 y1 y2 yl g0 g1 g2
  have H6 := Lib.hid (H5.out.later ((Below.refl w5.heap.size w5).alloc (Nat.le_refl _) (.cells #[.int .i64 0, .int .i64 time, .bool false, .string KT, .bool GB, .string VT, .slice none 0 0] 34)))
  obtain ⟨y0, y1, y2, yl, g0, g1, g2⟩ := ky3 (v0 := .string Kg) (v1 := .string Kt) (v2 := .int .i64 Ki) H5.out.kb
  obtain ⟨⟨r0, r1, r2, r3, r4, r5, r6⟩, _, rl⟩ := box7 H5.out.rb
  obtain ⟨q0, q1, q2, ql, m0, m1, m2⟩ := ky3 H5.out.res
  dsimp only at r0 r1 r2 r3 r4 r5 r6
  have cS6 := cS _ H6.out.below
  clear cS
  go_wp2_with fail
  with_reducible refine cS6.mono ?_
  rintro en w7 ⟨rfl, hb⟩
  have HX := Lib.hid (H6.out.later hb)
  clear hb cS6
  clear r0 r1 r2 r3 r4 r5 r6 rl y0 y1 y2 yl g0 g1 g2 q0 q1 q2 ql m0 m1 m2
  obtain ⟨y0, y1, y2, yl, g0, g1, g2⟩ := ky3 (v0 := .string Kg) (v1 := .string Kt) (v2 := .int .i64 Ki) HX.out.kb
  obtain ⟨⟨r0, r1, r2, r3, r4, r5, r6⟩, _, rl⟩ := box7 HX.out.rb
  obtain ⟨q0, q1, q2, ql, m0, m1, m2⟩ := ky3 HX.out.res
  dsimp only at r0 r1 r2 r3 r4 r5 r6
  go_wp2_with fail
  refine bodyPost_ret (v := .tuple #[.agg #[.string Kg, .string Kt, .int .i64 Ki], .int .i64 (-1), .bool true]) ?_ rfl ⟨by rw [HV.out], (HX.out.fin _ _ _).2⟩
  exact co_result _ (HX.out.fin _ _ _).1 _ rfl rfl rfl
set_option maxHeartbeats 8000000 in
set_option maxRecDepth 100000 in
theorem cm_no_g (r : Rec) (A : Option Addr) (c : Nat) (W : World) (hR : RIn W r A c) (hgone : r.gone = true) (hE : enOk (cmK r) (cmA r) r.time = true) (hS : decide (encS r = encS (enRec (cmK r) (cmA r) r.time)) = false) : Calls Try.prog 35 #[.agg #[.int .i64 r.place, .int .i64 r.time, .bool r.bare, .string r.key, .bool r.gone, .string r.value, .slice A r.heads.length c]] W (Good W (cmV r)) := by
  obtain ⟨place, time, bare, key, gone, value, heads⟩ := r
  simp only at hgone
  subst hgone
  have H := Lib.hid (CoI.start W (⟨place, time, bare, key, true, value, heads⟩ : Rec) A c)
  have HA : cmA (⟨place, time, bare, key, true, value, heads⟩ : Rec) = -1 := by unfold cmA; rfl
  have HV : Hid (cmV (⟨place, time, bare, key, true, value, heads⟩ : Rec) = .tuple #[.agg #[.string ⟨#[]⟩, .string ⟨#[]⟩, .int .i64 0], .int .i64 0, .bool false]) := Lib.hid (by unfold cmV; rw [if_neg (by unfold cmOk; rw [hE, hS]; decide)])
  have t1 := fun w => take_c key 0 100 w (show key.size ≤ _ from hR.key) (by omega)
  have t2 := fun w => take_c key (takeG key 0 100).2.1 100 w (show key.size ≤ _ from hR.key) (by omega)
  have t3 := fun w => get_c key (takeG key (takeG key 0 100).2.1 100).2.1 w (show key.size ≤ _ from hR.key)
  have t4 := fun w => get_c value 0 w (show value.size ≤ _ from hR.value)
  rw [HA] at hE hS
  have hsz := (okRec_parts (enRec_ok hE)).2.1
  have cE : ∀ w, Calls Try.prog 18 #[.agg #[.string (cmK (⟨place, time, bare, key, true, value, heads⟩ : Rec)).g, .string (cmK (⟨place, time, bare, key, true, value, heads⟩ : Rec)).t, .int .i64 (cmK (⟨place, time, bare, key, true, value, heads⟩ : Rec)).i], .int .i64 (-1), .int .i64 time] w (Good w (.tuple #[.agg #[.int .i64 0, .int .i64 time, .bool false, .string ⟨(enKey (cmK (⟨place, time, bare, key, true, value, heads⟩ : Rec))).toArray⟩, .bool (decide (((-1) : Int) = -1)), .string (if ((-1) : Int) = -1 then ⟨#[]⟩ else ⟨(putL (-1)).toArray⟩), .slice none 0 0], .int .i64 0])) := fun w => by
    have h := entry_c (cmK (⟨place, time, bare, key, true, value, heads⟩ : Rec)) ((-1)) time w
    unfold enR enE at h
    rw [if_pos hE, if_pos hE] at h
    exact h
  have cS : ∀ w, Below W.heap.size W w → Calls Try.prog 57 #[.agg #[.int .i64 0, .int .i64 time, .bool false, .string ⟨(enKey (cmK (⟨place, time, bare, key, true, value, heads⟩ : Rec))).toArray⟩, .bool (decide (((-1) : Int) = -1)), .string (if ((-1) : Int) = -1 then ⟨#[]⟩ else ⟨(putL (-1)).toArray⟩), .slice none 0 0], .agg #[.int .i64 place, .int .i64 time, .bool bare, .string key, .bool true, .string value, .slice A heads.length c]] w (Good w (.bool false)) := fun w hb => by
    have h := same_c (enRec (cmK (⟨place, time, bare, key, true, value, heads⟩ : Rec)) ((-1)) time) none 0 (⟨place, time, bare, key, true, value, heads⟩ : Rec) A c w (rin_nil w _ rfl (Nat.le_trans hsz.1 (by decide)) (Nat.le_trans hsz.2 (by decide))) (hR.below hb)
    rw [hS] at h
    exact h
  clear hE hS hsz
  clear HA
  have HG : (takeG key 0 100).1 = (cmK (⟨place, time, bare, key, true, value, heads⟩ : Rec)).g ∧ (takeG key (takeG key 0 100).2.1 100).1 = (cmK (⟨place, time, bare, key, true, value, heads⟩ : Rec)).t ∧ (getG key (takeG key (takeG key 0 100).2.1 100).2.1).1 = (cmK (⟨place, time, bare, key, true, value, heads⟩ : Rec)).i := ⟨rfl, rfl, rfl⟩
  unfold Sri at t1 t2
  unfold Tri at t3 t4
  rw [HG.1] at t1
  rw [HG.2.1] at t2
  rw [HG.2.2] at t3
  clear HG
  generalize (⟨(enKey (cmK (⟨place, time, bare, key, true, value, heads⟩ : Rec))).toArray⟩ : ByteArray) = KT at *
  generalize (decide ((-1 : Int) = -1)) = GB at *
  generalize (if (-1 : Int) = -1 then (⟨#[]⟩ : ByteArray) else ⟨(putL (-1)).toArray⟩) = VT at *
  generalize (cmK (⟨place, time, bare, key, true, value, heads⟩ : Rec)) = K at *
  obtain ⟨Kg, Kt, Ki⟩ := K
  simp only at cE t1 t2 t3
  generalize (getG key (takeG key (takeG key 0 100).2.1 100).2.1).2.2 = e3 at *
  generalize (getG key (takeG key (takeG key 0 100).2.1 100).2.1).2.1 = p3 at *
  generalize (takeG key (takeG key 0 100).2.1 100).2.2 = e2 at *
  generalize (takeG key (takeG key 0 100).2.1 100).2.1 = p2 at *
  generalize (takeG key 0 100).2.2 = e1 at *
  generalize (takeG key 0 100).2.1 = p1 at *
  generalize (getG value 0).1 = AT at *
  generalize (getG value 0).2.1 = p4 at *
  generalize (getG value 0).2.2 = e4 at *
  obtain ⟨⟨r0, r1, r2, r3, r4, r5, r6⟩, _, rl⟩ := box7 H.out.rb
  obtain ⟨y0, y1, y2, yl, g0, g1, g2⟩ := ky3 H.out.kb
  dsimp only at *
  go_enter Try.func35, Try.ntmps35
  go_wp2_with fail
  with_reducible refine (t1 _).mono ?_
  rintro en w1 ⟨rfl, hb⟩
  have H1 := Lib.hid (((H.out.later hb)).set 0 (.string Kg))
  have hk := (H.out.later hb).kb
  have hr := (H.out.later hb).rb
  clear r0 r1 r2 r3 r4 r5 r6 rl y0 y1 y2 yl g0 g1 g2 hb H t1
  obtain ⟨y0, y1, y2, yl, g0, g1, g2⟩ := ky3 hk
  obtain ⟨⟨r0, r1, r2, r3, r4, r5, r6⟩, _, rl⟩ := box7 hr
  clear hk hr
  dsimp only at r0 r1 r2 r3 r4 r5 r6 y0 y1 y2
  go_wp2_with fail
  with_reducible refine (t2 _).mono ?_
  generalize (w1.setCell ⟨W.heap.size + 1 + 1, 0, none⟩ (.string Kg)) = w1' at *
  rintro en w2 ⟨rfl, hb⟩
  have H2 := Lib.hid (((H1.out.later hb)).set 1 (.string Kt))
  have hk := (H1.out.later hb).kb
  have hr := (H1.out.later hb).rb
  clear r0 r1 r2 r3 r4 r5 r6 rl y0 y1 y2 yl g0 g1 g2 hb H1 t2
  obtain ⟨y0, y1, y2, yl, g0, g1, g2⟩ := ky3 hk
  obtain ⟨⟨r0, r1, r2, r3, r4, r5, r6⟩, _, rl⟩ := box7 hr
  clear hk hr
  dsimp only at r0 r1 r2 r3 r4 r5 r6 y0 y1 y2
  go_wp2_with fail
  with_reducible refine (t3 _).mono ?_
  generalize (w2.setCell ⟨W.heap.size + 1 + 1, 1, none⟩ (.string Kt)) = w2' at *
  rintro en w3 ⟨rfl, rfl⟩
  have H3 := Lib.hid (H2.out.set 2 (.int .i64 Ki))
  have hk := H2.out.kb
  have hr := H2.out.rb
  clear r0 r1 r2 r3 r4 r5 r6 rl y0 y1 y2 yl g0 g1 g2 H2 t3
  obtain ⟨y0, y1, y2, yl, g0, g1, g2⟩ := ky3 (v0 := .string Kg) (v1 := .string Kt) (v2 := .int .i64 0) hk
  obtain ⟨⟨r0, r1, r2, r3, r4, r5, r6⟩, _, rl⟩ := box7 hr
  clear hk hr
  dsimp only at r0 r1 r2 r3 r4 r5 r6 y0 y1 y2
  go_wp2_with fail
  with_reducible refine (cE _).mono ?_
  generalize (w2'.setCell ⟨W.heap.size + 1 + 1, 2, none⟩ (.int .i64 Ki)) = w3 at *
  rintro en w5 ⟨rfl, hb⟩
  have H5 := Lib.hid (H3.out.later hb)
  clear hb cE H3
  clear r0 r1 r2 r3 r4 r5 r6 rl y0 y1 y2 yl g0 g1 g2
  have H6 := Lib.hid (H5.out.later ((Below.refl w5.heap.size w5).alloc (Nat.le_refl _) (.cells #[.int .i64 0, .int .i64 time, .bool false, .string KT, .bool GB, .string VT, .slice none 0 0] 34)))
  obtain ⟨y0, y1, y2, yl, g0, g1, g2⟩ := ky3 (v0 := .string Kg) (v1 := .string Kt) (v2 := .int .i64 Ki) H5.out.kb
  obtain ⟨⟨r0, r1, r2, r3, r4, r5, r6⟩, _, rl⟩ := box7 H5.out.rb
  obtain ⟨q0, q1, q2, ql, m0, m1, m2⟩ := ky3 H5.out.res
  dsimp only at r0 r1 r2 r3 r4 r5 r6
  have cS6 := cS _ H6.out.below
  clear cS
  go_wp2_with fail
  with_reducible refine cS6.mono ?_
  rintro en w7 ⟨rfl, hb⟩
  have HX := Lib.hid (H6.out.later hb)
  clear hb cS6
  clear r0 r1 r2 r3 r4 r5 r6 rl y0 y1 y2 yl g0 g1 g2 q0 q1 q2 ql m0 m1 m2
  obtain ⟨y0, y1, y2, yl, g0, g1, g2⟩ := ky3 (v0 := .string Kg) (v1 := .string Kt) (v2 := .int .i64 Ki) HX.out.kb
  obtain ⟨⟨r0, r1, r2, r3, r4, r5, r6⟩, _, rl⟩ := box7 HX.out.rb
  obtain ⟨q0, q1, q2, ql, m0, m1, m2⟩ := ky3 HX.out.res
  dsimp only at r0 r1 r2 r3 r4 r5 r6
  go_wp2_with fail
  refine bodyPost_ret (v := .tuple #[.agg #[.string ⟨#[]⟩, .string ⟨#[]⟩, .int .i64 0], .int .i64 0, .bool false]) ?_ rfl ⟨by rw [HV.out], (HX.out.fin _ _ _).2⟩
  exact co_result _ (HX.out.fin _ _ _).1 _ rfl rfl rfl
set_option maxHeartbeats 8000000 in
set_option maxRecDepth 100000 in
theorem cm_bad_v (r : Rec) (A : Option Addr) (c : Nat) (W : World) (hR : RIn W r A c) (hgone : r.gone = false) (hE : enOk (cmK r) (cmA r) r.time = false) : Calls Try.prog 35 #[.agg #[.int .i64 r.place, .int .i64 r.time, .bool r.bare, .string r.key, .bool r.gone, .string r.value, .slice A r.heads.length c]] W (Good W (cmV r)) := by
  obtain ⟨place, time, bare, key, gone, value, heads⟩ := r
  simp only at hgone
  subst hgone
  have H := Lib.hid (CoI.start W (⟨place, time, bare, key, false, value, heads⟩ : Rec) A c)
  have HA : cmA (⟨place, time, bare, key, false, value, heads⟩ : Rec) = (getG value 0).1 := by unfold cmA; rfl
  have HV : Hid (cmV (⟨place, time, bare, key, false, value, heads⟩ : Rec) = .tuple #[.agg #[.string ⟨#[]⟩, .string ⟨#[]⟩, .int .i64 0], .int .i64 0, .bool false]) := Lib.hid (by unfold cmV; rw [if_neg (by unfold cmOk; rw [hE]; simp)])
  have t1 := fun w => take_c key 0 100 w (show key.size ≤ _ from hR.key) (by omega)
  have t2 := fun w => take_c key (takeG key 0 100).2.1 100 w (show key.size ≤ _ from hR.key) (by omega)
  have t3 := fun w => get_c key (takeG key (takeG key 0 100).2.1 100).2.1 w (show key.size ≤ _ from hR.key)
  have t4 := fun w => get_c value 0 w (show value.size ≤ _ from hR.value)
  have cE : ∀ w, Calls Try.prog 18 #[.agg #[.string (cmK (⟨place, time, bare, key, false, value, heads⟩ : Rec)).g, .string (cmK (⟨place, time, bare, key, false, value, heads⟩ : Rec)).t, .int .i64 (cmK (⟨place, time, bare, key, false, value, heads⟩ : Rec)).i], .int .i64 (getG value 0).1, .int .i64 time] w (Good w (.tuple #[.agg #[.int .i64 0, .int .i64 0, .bool false, .string ⟨#[]⟩, .bool false, .string ⟨#[]⟩, .slice none 0 0], .int .i64 1])) := fun w => by
    have h := entry_c (cmK (⟨place, time, bare, key, false, value, heads⟩ : Rec)) ((getG value 0).1) time w
    rw [HA] at hE
    unfold enR enE at h
    rw [if_neg (by rw [hE]; decide), if_neg (by rw [hE]; decide)] at h
    exact h
  clear HA
  have HG : (takeG key 0 100).1 = (cmK (⟨place, time, bare, key, false, value, heads⟩ : Rec)).g ∧ (takeG key (takeG key 0 100).2.1 100).1 = (cmK (⟨place, time, bare, key, false, value, heads⟩ : Rec)).t ∧ (getG key (takeG key (takeG key 0 100).2.1 100).2.1).1 = (cmK (⟨place, time, bare, key, false, value, heads⟩ : Rec)).i := ⟨rfl, rfl, rfl⟩
  unfold Sri at t1 t2
  unfold Tri at t3 t4
  rw [HG.1] at t1
  rw [HG.2.1] at t2
  rw [HG.2.2] at t3
  clear HG
  generalize (cmK (⟨place, time, bare, key, false, value, heads⟩ : Rec)) = K at *
  obtain ⟨Kg, Kt, Ki⟩ := K
  simp only at cE t1 t2 t3
  generalize (getG key (takeG key (takeG key 0 100).2.1 100).2.1).2.2 = e3 at *
  generalize (getG key (takeG key (takeG key 0 100).2.1 100).2.1).2.1 = p3 at *
  generalize (takeG key (takeG key 0 100).2.1 100).2.2 = e2 at *
  generalize (takeG key (takeG key 0 100).2.1 100).2.1 = p2 at *
  generalize (takeG key 0 100).2.2 = e1 at *
  generalize (takeG key 0 100).2.1 = p1 at *
  generalize (getG value 0).1 = AT at *
  generalize (getG value 0).2.1 = p4 at *
  generalize (getG value 0).2.2 = e4 at *
  obtain ⟨⟨r0, r1, r2, r3, r4, r5, r6⟩, _, rl⟩ := box7 H.out.rb
  obtain ⟨y0, y1, y2, yl, g0, g1, g2⟩ := ky3 H.out.kb
  dsimp only at *
  go_enter Try.func35, Try.ntmps35
  go_wp2_with fail
  with_reducible refine (t1 _).mono ?_
  rintro en w1 ⟨rfl, hb⟩
  have H1 := Lib.hid (((H.out.later hb)).set 0 (.string Kg))
  have hk := (H.out.later hb).kb
  have hr := (H.out.later hb).rb
  clear r0 r1 r2 r3 r4 r5 r6 rl y0 y1 y2 yl g0 g1 g2 hb H t1
  obtain ⟨y0, y1, y2, yl, g0, g1, g2⟩ := ky3 hk
  obtain ⟨⟨r0, r1, r2, r3, r4, r5, r6⟩, _, rl⟩ := box7 hr
  clear hk hr
  dsimp only at r0 r1 r2 r3 r4 r5 r6 y0 y1 y2
  go_wp2_with fail
  with_reducible refine (t2 _).mono ?_
  generalize (w1.setCell ⟨W.heap.size + 1 + 1, 0, none⟩ (.string Kg)) = w1' at *
  rintro en w2 ⟨rfl, hb⟩
  have H2 := Lib.hid (((H1.out.later hb)).set 1 (.string Kt))
  have hk := (H1.out.later hb).kb
  have hr := (H1.out.later hb).rb
  clear r0 r1 r2 r3 r4 r5 r6 rl y0 y1 y2 yl g0 g1 g2 hb H1 t2
  obtain ⟨y0, y1, y2, yl, g0, g1, g2⟩ := ky3 hk
  obtain ⟨⟨r0, r1, r2, r3, r4, r5, r6⟩, _, rl⟩ := box7 hr
  clear hk hr
  dsimp only at r0 r1 r2 r3 r4 r5 r6 y0 y1 y2
  go_wp2_with fail
  with_reducible refine (t3 _).mono ?_
  generalize (w2.setCell ⟨W.heap.size + 1 + 1, 1, none⟩ (.string Kt)) = w2' at *
  rintro en w3 ⟨rfl, rfl⟩
  have H3 := Lib.hid (H2.out.set 2 (.int .i64 Ki))
  have hk := H2.out.kb
  have hr := H2.out.rb
  clear r0 r1 r2 r3 r4 r5 r6 rl y0 y1 y2 yl g0 g1 g2 H2 t3
  obtain ⟨y0, y1, y2, yl, g0, g1, g2⟩ := ky3 (v0 := .string Kg) (v1 := .string Kt) (v2 := .int .i64 0) hk
  obtain ⟨⟨r0, r1, r2, r3, r4, r5, r6⟩, _, rl⟩ := box7 hr
  clear hk hr
  dsimp only at r0 r1 r2 r3 r4 r5 r6 y0 y1 y2
  go_wp2_with fail
  with_reducible refine (t4 _).mono ?_
  generalize (w2'.setCell ⟨W.heap.size + 1 + 1, 2, none⟩ (.int .i64 Ki)) = w3 at *
  rintro en w4 ⟨rfl, rfl⟩
  clear r0 r1 r2 r3 r4 r5 r6 rl y0 y1 y2 yl g0 g1 g2
  obtain ⟨y0, y1, y2, yl, g0, g1, g2⟩ := ky3 (v0 := .string Kg) (v1 := .string Kt) (v2 := .int .i64 Ki) H3.out.kb
  obtain ⟨⟨r0, r1, r2, r3, r4, r5, r6⟩, _, rl⟩ := box7 H3.out.rb
  dsimp only at r0 r1 r2 r3 r4 r5 r6
  clear t4
  go_wp2_with fail
  with_reducible refine (cE _).mono ?_
  rintro en w5 ⟨rfl, hb⟩
  have H5 := Lib.hid (H3.out.later hb)
  clear hb cE H3
  clear r0 r1 r2 r3 r4 r5 r6 rl y0 y1 y2 yl g0 g1 g2
  obtain ⟨y0, y1, y2, yl, g0, g1, g2⟩ := ky3 (v0 := .string Kg) (v1 := .string Kt) (v2 := .int .i64 Ki) H5.out.kb
  obtain ⟨⟨r0, r1, r2, r3, r4, r5, r6⟩, _, rl⟩ := box7 H5.out.rb
  obtain ⟨q0, q1, q2, ql, m0, m1, m2⟩ := ky3 H5.out.res
  dsimp only at r0 r1 r2 r3 r4 r5 r6
  have hf := Lib.hid (H5.out.fin (.string ⟨#[]⟩) (.string ⟨#[]⟩) (.int .i64 0))
  go_wp2_with fail
  refine bodyPost_ret (v := .tuple #[.agg #[.string ⟨#[]⟩, .string ⟨#[]⟩, .int .i64 0], .int .i64 0, .bool false]) ?_ rfl ⟨by rw [HV.out], hf.out.2.trans (((Below.refl _ _).alloc (Nat.le_refl _) _).mono hf.out.2.size)⟩
  exact co_result _ (hf.out.1.alloc _) _ rfl rfl rfl
set_option maxHeartbeats 8000000 in
set_option maxRecDepth 100000 in
theorem cm_yes_v (r : Rec) (A : Option Addr) (c : Nat) (W : World) (hR : RIn W r A c) (hgone : r.gone = false) (hE : enOk (cmK r) (cmA r) r.time = true) (hS : decide (encS r = encS (enRec (cmK r) (cmA r) r.time)) = true) : Calls Try.prog 35 #[.agg #[.int .i64 r.place, .int .i64 r.time, .bool r.bare, .string r.key, .bool r.gone, .string r.value, .slice A r.heads.length c]] W (Good W (cmV r)) := by
  obtain ⟨place, time, bare, key, gone, value, heads⟩ := r
  simp only at hgone
  subst hgone
  have H := Lib.hid (CoI.start W (⟨place, time, bare, key, false, value, heads⟩ : Rec) A c)
  have HA : cmA (⟨place, time, bare, key, false, value, heads⟩ : Rec) = (getG value 0).1 := by unfold cmA; rfl
  have HV : Hid (cmV (⟨place, time, bare, key, false, value, heads⟩ : Rec) = .tuple #[.agg #[.string (cmK (⟨place, time, bare, key, false, value, heads⟩ : Rec)).g, .string (cmK (⟨place, time, bare, key, false, value, heads⟩ : Rec)).t, .int .i64 (cmK (⟨place, time, bare, key, false, value, heads⟩ : Rec)).i], .int .i64 ((getG value 0).1), .bool true]) := Lib.hid (by unfold cmV; rw [if_pos (by unfold cmOk; rw [hE, hS]; rfl), HA])
  have t1 := fun w => take_c key 0 100 w (show key.size ≤ _ from hR.key) (by omega)
  have t2 := fun w => take_c key (takeG key 0 100).2.1 100 w (show key.size ≤ _ from hR.key) (by omega)
  have t3 := fun w => get_c key (takeG key (takeG key 0 100).2.1 100).2.1 w (show key.size ≤ _ from hR.key)
  have t4 := fun w => get_c value 0 w (show value.size ≤ _ from hR.value)
  rw [HA] at hE hS
  have hsz := (okRec_parts (enRec_ok hE)).2.1
  have cE : ∀ w, Calls Try.prog 18 #[.agg #[.string (cmK (⟨place, time, bare, key, false, value, heads⟩ : Rec)).g, .string (cmK (⟨place, time, bare, key, false, value, heads⟩ : Rec)).t, .int .i64 (cmK (⟨place, time, bare, key, false, value, heads⟩ : Rec)).i], .int .i64 (getG value 0).1, .int .i64 time] w (Good w (.tuple #[.agg #[.int .i64 0, .int .i64 time, .bool false, .string ⟨(enKey (cmK (⟨place, time, bare, key, false, value, heads⟩ : Rec))).toArray⟩, .bool (decide (((getG value 0).1 : Int) = -1)), .string (if ((getG value 0).1 : Int) = -1 then ⟨#[]⟩ else ⟨(putL (getG value 0).1).toArray⟩), .slice none 0 0], .int .i64 0])) := fun w => by
    have h := entry_c (cmK (⟨place, time, bare, key, false, value, heads⟩ : Rec)) ((getG value 0).1) time w
    unfold enR enE at h
    rw [if_pos hE, if_pos hE] at h
    exact h
  have cS : ∀ w, Below W.heap.size W w → Calls Try.prog 57 #[.agg #[.int .i64 0, .int .i64 time, .bool false, .string ⟨(enKey (cmK (⟨place, time, bare, key, false, value, heads⟩ : Rec))).toArray⟩, .bool (decide (((getG value 0).1 : Int) = -1)), .string (if ((getG value 0).1 : Int) = -1 then ⟨#[]⟩ else ⟨(putL (getG value 0).1).toArray⟩), .slice none 0 0], .agg #[.int .i64 place, .int .i64 time, .bool bare, .string key, .bool false, .string value, .slice A heads.length c]] w (Good w (.bool true)) := fun w hb => by
    have h := same_c (enRec (cmK (⟨place, time, bare, key, false, value, heads⟩ : Rec)) ((getG value 0).1) time) none 0 (⟨place, time, bare, key, false, value, heads⟩ : Rec) A c w (rin_nil w _ rfl (Nat.le_trans hsz.1 (by decide)) (Nat.le_trans hsz.2 (by decide))) (hR.below hb)
    rw [hS] at h
    exact h
  clear hE hS hsz
  clear HA
  have HG : (takeG key 0 100).1 = (cmK (⟨place, time, bare, key, false, value, heads⟩ : Rec)).g ∧ (takeG key (takeG key 0 100).2.1 100).1 = (cmK (⟨place, time, bare, key, false, value, heads⟩ : Rec)).t ∧ (getG key (takeG key (takeG key 0 100).2.1 100).2.1).1 = (cmK (⟨place, time, bare, key, false, value, heads⟩ : Rec)).i := ⟨rfl, rfl, rfl⟩
  unfold Sri at t1 t2
  unfold Tri at t3 t4
  rw [HG.1] at t1
  rw [HG.2.1] at t2
  rw [HG.2.2] at t3
  clear HG
  generalize (⟨(enKey (cmK (⟨place, time, bare, key, false, value, heads⟩ : Rec))).toArray⟩ : ByteArray) = KT at *
  generalize (decide ((getG value 0).1 = -1)) = GB at *
  generalize (if (getG value 0).1 = -1 then (⟨#[]⟩ : ByteArray) else ⟨(putL (getG value 0).1).toArray⟩) = VT at *
  generalize (cmK (⟨place, time, bare, key, false, value, heads⟩ : Rec)) = K at *
  obtain ⟨Kg, Kt, Ki⟩ := K
  simp only at cE t1 t2 t3
  generalize (getG key (takeG key (takeG key 0 100).2.1 100).2.1).2.2 = e3 at *
  generalize (getG key (takeG key (takeG key 0 100).2.1 100).2.1).2.1 = p3 at *
  generalize (takeG key (takeG key 0 100).2.1 100).2.2 = e2 at *
  generalize (takeG key (takeG key 0 100).2.1 100).2.1 = p2 at *
  generalize (takeG key 0 100).2.2 = e1 at *
  generalize (takeG key 0 100).2.1 = p1 at *
  generalize (getG value 0).1 = AT at *
  generalize (getG value 0).2.1 = p4 at *
  generalize (getG value 0).2.2 = e4 at *
  obtain ⟨⟨r0, r1, r2, r3, r4, r5, r6⟩, _, rl⟩ := box7 H.out.rb
  obtain ⟨y0, y1, y2, yl, g0, g1, g2⟩ := ky3 H.out.kb
  dsimp only at *
  go_enter Try.func35, Try.ntmps35
  go_wp2_with fail
  with_reducible refine (t1 _).mono ?_
  rintro en w1 ⟨rfl, hb⟩
  have H1 := Lib.hid (((H.out.later hb)).set 0 (.string Kg))
  have hk := (H.out.later hb).kb
  have hr := (H.out.later hb).rb
  clear r0 r1 r2 r3 r4 r5 r6 rl y0 y1 y2 yl g0 g1 g2 hb H t1
  obtain ⟨y0, y1, y2, yl, g0, g1, g2⟩ := ky3 hk
  obtain ⟨⟨r0, r1, r2, r3, r4, r5, r6⟩, _, rl⟩ := box7 hr
  clear hk hr
  dsimp only at r0 r1 r2 r3 r4 r5 r6 y0 y1 y2
  go_wp2_with fail
  with_reducible refine (t2 _).mono ?_
  generalize (w1.setCell ⟨W.heap.size + 1 + 1, 0, none⟩ (.string Kg)) = w1' at *
  rintro en w2 ⟨rfl, hb⟩
  have H2 := Lib.hid (((H1.out.later hb)).set 1 (.string Kt))
  have hk := (H1.out.later hb).kb
  have hr := (H1.out.later hb).rb
  clear r0 r1 r2 r3 r4 r5 r6 rl y0 y1 y2 yl g0 g1 g2 hb H1 t2
  obtain ⟨y0, y1, y2, yl, g0, g1, g2⟩ := ky3 hk
  obtain ⟨⟨r0, r1, r2, r3, r4, r5, r6⟩, _, rl⟩ := box7 hr
  clear hk hr
  dsimp only at r0 r1 r2 r3 r4 r5 r6 y0 y1 y2
  go_wp2_with fail
  with_reducible refine (t3 _).mono ?_
  generalize (w2.setCell ⟨W.heap.size + 1 + 1, 1, none⟩ (.string Kt)) = w2' at *
  rintro en w3 ⟨rfl, rfl⟩
  have H3 := Lib.hid (H2.out.set 2 (.int .i64 Ki))
  have hk := H2.out.kb
  have hr := H2.out.rb
  clear r0 r1 r2 r3 r4 r5 r6 rl y0 y1 y2 yl g0 g1 g2 H2 t3
  obtain ⟨y0, y1, y2, yl, g0, g1, g2⟩ := ky3 (v0 := .string Kg) (v1 := .string Kt) (v2 := .int .i64 0) hk
  obtain ⟨⟨r0, r1, r2, r3, r4, r5, r6⟩, _, rl⟩ := box7 hr
  clear hk hr
  dsimp only at r0 r1 r2 r3 r4 r5 r6 y0 y1 y2
  go_wp2_with fail
  with_reducible refine (t4 _).mono ?_
  generalize (w2'.setCell ⟨W.heap.size + 1 + 1, 2, none⟩ (.int .i64 Ki)) = w3 at *
  rintro en w4 ⟨rfl, rfl⟩
  clear r0 r1 r2 r3 r4 r5 r6 rl y0 y1 y2 yl g0 g1 g2
  obtain ⟨y0, y1, y2, yl, g0, g1, g2⟩ := ky3 (v0 := .string Kg) (v1 := .string Kt) (v2 := .int .i64 Ki) H3.out.kb
  obtain ⟨⟨r0, r1, r2, r3, r4, r5, r6⟩, _, rl⟩ := box7 H3.out.rb
  dsimp only at r0 r1 r2 r3 r4 r5 r6
  clear t4
  go_wp2_with fail
  with_reducible refine (cE _).mono ?_
  rintro en w5 ⟨rfl, hb⟩
  have H5 := Lib.hid (H3.out.later hb)
  clear hb cE H3
  clear r0 r1 r2 r3 r4 r5 r6 rl y0 y1 y2 yl g0 g1 g2
  have H6 := Lib.hid (H5.out.later ((Below.refl w5.heap.size w5).alloc (Nat.le_refl _) (.cells #[.int .i64 0, .int .i64 time, .bool false, .string KT, .bool GB, .string VT, .slice none 0 0] 34)))
  obtain ⟨y0, y1, y2, yl, g0, g1, g2⟩ := ky3 (v0 := .string Kg) (v1 := .string Kt) (v2 := .int .i64 Ki) H5.out.kb
  obtain ⟨⟨r0, r1, r2, r3, r4, r5, r6⟩, _, rl⟩ := box7 H5.out.rb
  obtain ⟨q0, q1, q2, ql, m0, m1, m2⟩ := ky3 H5.out.res
  dsimp only at r0 r1 r2 r3 r4 r5 r6
  have cS6 := cS _ H6.out.below
  clear cS
  go_wp2_with fail
  with_reducible refine cS6.mono ?_
  rintro en w7 ⟨rfl, hb⟩
  have HX := Lib.hid (H6.out.later hb)
  clear hb cS6
  clear r0 r1 r2 r3 r4 r5 r6 rl y0 y1 y2 yl g0 g1 g2 q0 q1 q2 ql m0 m1 m2
  obtain ⟨y0, y1, y2, yl, g0, g1, g2⟩ := ky3 (v0 := .string Kg) (v1 := .string Kt) (v2 := .int .i64 Ki) HX.out.kb
  obtain ⟨⟨r0, r1, r2, r3, r4, r5, r6⟩, _, rl⟩ := box7 HX.out.rb
  obtain ⟨q0, q1, q2, ql, m0, m1, m2⟩ := ky3 HX.out.res
  dsimp only at r0 r1 r2 r3 r4 r5 r6
  go_wp2_with fail
  refine bodyPost_ret (v := .tuple #[.agg #[.string Kg, .string Kt, .int .i64 Ki], .int .i64 (AT), .bool true]) ?_ rfl ⟨by rw [HV.out], (HX.out.fin _ _ _).2⟩
  exact co_result _ (HX.out.fin _ _ _).1 _ rfl rfl rfl
set_option maxHeartbeats 8000000 in
set_option maxRecDepth 100000 in
theorem cm_no_v (r : Rec) (A : Option Addr) (c : Nat) (W : World) (hR : RIn W r A c) (hgone : r.gone = false) (hE : enOk (cmK r) (cmA r) r.time = true) (hS : decide (encS r = encS (enRec (cmK r) (cmA r) r.time)) = false) : Calls Try.prog 35 #[.agg #[.int .i64 r.place, .int .i64 r.time, .bool r.bare, .string r.key, .bool r.gone, .string r.value, .slice A r.heads.length c]] W (Good W (cmV r)) := by
  obtain ⟨place, time, bare, key, gone, value, heads⟩ := r
  simp only at hgone
  subst hgone
  have H := Lib.hid (CoI.start W (⟨place, time, bare, key, false, value, heads⟩ : Rec) A c)
  have HA : cmA (⟨place, time, bare, key, false, value, heads⟩ : Rec) = (getG value 0).1 := by unfold cmA; rfl
  have HV : Hid (cmV (⟨place, time, bare, key, false, value, heads⟩ : Rec) = .tuple #[.agg #[.string ⟨#[]⟩, .string ⟨#[]⟩, .int .i64 0], .int .i64 0, .bool false]) := Lib.hid (by unfold cmV; rw [if_neg (by unfold cmOk; rw [hE, hS]; decide)])
  have t1 := fun w => take_c key 0 100 w (show key.size ≤ _ from hR.key) (by omega)
  have t2 := fun w => take_c key (takeG key 0 100).2.1 100 w (show key.size ≤ _ from hR.key) (by omega)
  have t3 := fun w => get_c key (takeG key (takeG key 0 100).2.1 100).2.1 w (show key.size ≤ _ from hR.key)
  have t4 := fun w => get_c value 0 w (show value.size ≤ _ from hR.value)
  rw [HA] at hE hS
  have hsz := (okRec_parts (enRec_ok hE)).2.1
  have cE : ∀ w, Calls Try.prog 18 #[.agg #[.string (cmK (⟨place, time, bare, key, false, value, heads⟩ : Rec)).g, .string (cmK (⟨place, time, bare, key, false, value, heads⟩ : Rec)).t, .int .i64 (cmK (⟨place, time, bare, key, false, value, heads⟩ : Rec)).i], .int .i64 (getG value 0).1, .int .i64 time] w (Good w (.tuple #[.agg #[.int .i64 0, .int .i64 time, .bool false, .string ⟨(enKey (cmK (⟨place, time, bare, key, false, value, heads⟩ : Rec))).toArray⟩, .bool (decide (((getG value 0).1 : Int) = -1)), .string (if ((getG value 0).1 : Int) = -1 then ⟨#[]⟩ else ⟨(putL (getG value 0).1).toArray⟩), .slice none 0 0], .int .i64 0])) := fun w => by
    have h := entry_c (cmK (⟨place, time, bare, key, false, value, heads⟩ : Rec)) ((getG value 0).1) time w
    unfold enR enE at h
    rw [if_pos hE, if_pos hE] at h
    exact h
  have cS : ∀ w, Below W.heap.size W w → Calls Try.prog 57 #[.agg #[.int .i64 0, .int .i64 time, .bool false, .string ⟨(enKey (cmK (⟨place, time, bare, key, false, value, heads⟩ : Rec))).toArray⟩, .bool (decide (((getG value 0).1 : Int) = -1)), .string (if ((getG value 0).1 : Int) = -1 then ⟨#[]⟩ else ⟨(putL (getG value 0).1).toArray⟩), .slice none 0 0], .agg #[.int .i64 place, .int .i64 time, .bool bare, .string key, .bool false, .string value, .slice A heads.length c]] w (Good w (.bool false)) := fun w hb => by
    have h := same_c (enRec (cmK (⟨place, time, bare, key, false, value, heads⟩ : Rec)) ((getG value 0).1) time) none 0 (⟨place, time, bare, key, false, value, heads⟩ : Rec) A c w (rin_nil w _ rfl (Nat.le_trans hsz.1 (by decide)) (Nat.le_trans hsz.2 (by decide))) (hR.below hb)
    rw [hS] at h
    exact h
  clear hE hS hsz
  clear HA
  have HG : (takeG key 0 100).1 = (cmK (⟨place, time, bare, key, false, value, heads⟩ : Rec)).g ∧ (takeG key (takeG key 0 100).2.1 100).1 = (cmK (⟨place, time, bare, key, false, value, heads⟩ : Rec)).t ∧ (getG key (takeG key (takeG key 0 100).2.1 100).2.1).1 = (cmK (⟨place, time, bare, key, false, value, heads⟩ : Rec)).i := ⟨rfl, rfl, rfl⟩
  unfold Sri at t1 t2
  unfold Tri at t3 t4
  rw [HG.1] at t1
  rw [HG.2.1] at t2
  rw [HG.2.2] at t3
  clear HG
  generalize (⟨(enKey (cmK (⟨place, time, bare, key, false, value, heads⟩ : Rec))).toArray⟩ : ByteArray) = KT at *
  generalize (decide ((getG value 0).1 = -1)) = GB at *
  generalize (if (getG value 0).1 = -1 then (⟨#[]⟩ : ByteArray) else ⟨(putL (getG value 0).1).toArray⟩) = VT at *
  generalize (cmK (⟨place, time, bare, key, false, value, heads⟩ : Rec)) = K at *
  obtain ⟨Kg, Kt, Ki⟩ := K
  simp only at cE t1 t2 t3
  generalize (getG key (takeG key (takeG key 0 100).2.1 100).2.1).2.2 = e3 at *
  generalize (getG key (takeG key (takeG key 0 100).2.1 100).2.1).2.1 = p3 at *
  generalize (takeG key (takeG key 0 100).2.1 100).2.2 = e2 at *
  generalize (takeG key (takeG key 0 100).2.1 100).2.1 = p2 at *
  generalize (takeG key 0 100).2.2 = e1 at *
  generalize (takeG key 0 100).2.1 = p1 at *
  generalize (getG value 0).1 = AT at *
  generalize (getG value 0).2.1 = p4 at *
  generalize (getG value 0).2.2 = e4 at *
  obtain ⟨⟨r0, r1, r2, r3, r4, r5, r6⟩, _, rl⟩ := box7 H.out.rb
  obtain ⟨y0, y1, y2, yl, g0, g1, g2⟩ := ky3 H.out.kb
  dsimp only at *
  go_enter Try.func35, Try.ntmps35
  go_wp2_with fail
  with_reducible refine (t1 _).mono ?_
  rintro en w1 ⟨rfl, hb⟩
  have H1 := Lib.hid (((H.out.later hb)).set 0 (.string Kg))
  have hk := (H.out.later hb).kb
  have hr := (H.out.later hb).rb
  clear r0 r1 r2 r3 r4 r5 r6 rl y0 y1 y2 yl g0 g1 g2 hb H t1
  obtain ⟨y0, y1, y2, yl, g0, g1, g2⟩ := ky3 hk
  obtain ⟨⟨r0, r1, r2, r3, r4, r5, r6⟩, _, rl⟩ := box7 hr
  clear hk hr
  dsimp only at r0 r1 r2 r3 r4 r5 r6 y0 y1 y2
  go_wp2_with fail
  with_reducible refine (t2 _).mono ?_
  generalize (w1.setCell ⟨W.heap.size + 1 + 1, 0, none⟩ (.string Kg)) = w1' at *
  rintro en w2 ⟨rfl, hb⟩
  have H2 := Lib.hid (((H1.out.later hb)).set 1 (.string Kt))
  have hk := (H1.out.later hb).kb
  have hr := (H1.out.later hb).rb
  clear r0 r1 r2 r3 r4 r5 r6 rl y0 y1 y2 yl g0 g1 g2 hb H1 t2
  obtain ⟨y0, y1, y2, yl, g0, g1, g2⟩ := ky3 hk
  obtain ⟨⟨r0, r1, r2, r3, r4, r5, r6⟩, _, rl⟩ := box7 hr
  clear hk hr
  dsimp only at r0 r1 r2 r3 r4 r5 r6 y0 y1 y2
  go_wp2_with fail
  with_reducible refine (t3 _).mono ?_
  generalize (w2.setCell ⟨W.heap.size + 1 + 1, 1, none⟩ (.string Kt)) = w2' at *
  rintro en w3 ⟨rfl, rfl⟩
  have H3 := Lib.hid (H2.out.set 2 (.int .i64 Ki))
  have hk := H2.out.kb
  have hr := H2.out.rb
  clear r0 r1 r2 r3 r4 r5 r6 rl y0 y1 y2 yl g0 g1 g2 H2 t3
  obtain ⟨y0, y1, y2, yl, g0, g1, g2⟩ := ky3 (v0 := .string Kg) (v1 := .string Kt) (v2 := .int .i64 0) hk
  obtain ⟨⟨r0, r1, r2, r3, r4, r5, r6⟩, _, rl⟩ := box7 hr
  clear hk hr
  dsimp only at r0 r1 r2 r3 r4 r5 r6 y0 y1 y2
  go_wp2_with fail
  with_reducible refine (t4 _).mono ?_
  generalize (w2'.setCell ⟨W.heap.size + 1 + 1, 2, none⟩ (.int .i64 Ki)) = w3 at *
  rintro en w4 ⟨rfl, rfl⟩
  clear r0 r1 r2 r3 r4 r5 r6 rl y0 y1 y2 yl g0 g1 g2
  obtain ⟨y0, y1, y2, yl, g0, g1, g2⟩ := ky3 (v0 := .string Kg) (v1 := .string Kt) (v2 := .int .i64 Ki) H3.out.kb
  obtain ⟨⟨r0, r1, r2, r3, r4, r5, r6⟩, _, rl⟩ := box7 H3.out.rb
  dsimp only at r0 r1 r2 r3 r4 r5 r6
  clear t4
  go_wp2_with fail
  with_reducible refine (cE _).mono ?_
  rintro en w5 ⟨rfl, hb⟩
  have H5 := Lib.hid (H3.out.later hb)
  clear hb cE H3
  clear r0 r1 r2 r3 r4 r5 r6 rl y0 y1 y2 yl g0 g1 g2
  have H6 := Lib.hid (H5.out.later ((Below.refl w5.heap.size w5).alloc (Nat.le_refl _) (.cells #[.int .i64 0, .int .i64 time, .bool false, .string KT, .bool GB, .string VT, .slice none 0 0] 34)))
  obtain ⟨y0, y1, y2, yl, g0, g1, g2⟩ := ky3 (v0 := .string Kg) (v1 := .string Kt) (v2 := .int .i64 Ki) H5.out.kb
  obtain ⟨⟨r0, r1, r2, r3, r4, r5, r6⟩, _, rl⟩ := box7 H5.out.rb
  obtain ⟨q0, q1, q2, ql, m0, m1, m2⟩ := ky3 H5.out.res
  dsimp only at r0 r1 r2 r3 r4 r5 r6
  have cS6 := cS _ H6.out.below
  clear cS
  go_wp2_with fail
  with_reducible refine cS6.mono ?_
  rintro en w7 ⟨rfl, hb⟩
  have HX := Lib.hid (H6.out.later hb)
  clear hb cS6
  clear r0 r1 r2 r3 r4 r5 r6 rl y0 y1 y2 yl g0 g1 g2 q0 q1 q2 ql m0 m1 m2
  obtain ⟨y0, y1, y2, yl, g0, g1, g2⟩ := ky3 (v0 := .string Kg) (v1 := .string Kt) (v2 := .int .i64 Ki) HX.out.kb
  obtain ⟨⟨r0, r1, r2, r3, r4, r5, r6⟩, _, rl⟩ := box7 HX.out.rb
  obtain ⟨q0, q1, q2, ql, m0, m1, m2⟩ := ky3 HX.out.res
  dsimp only at r0 r1 r2 r3 r4 r5 r6
  go_wp2_with fail
  refine bodyPost_ret (v := .tuple #[.agg #[.string ⟨#[]⟩, .string ⟨#[]⟩, .int .i64 0], .int .i64 0, .bool false]) ?_ rfl ⟨by rw [HV.out], (HX.out.fin _ _ _).2⟩
  exact co_result _ (HX.out.fin _ _ _).1 _ rfl rfl rfl
theorem commitOf_c (r : Rec) (A : Option Addr) (c : Nat) (W : World) (hR : RIn W r A c) : Calls Try.prog 35 #[.agg #[.int .i64 r.place, .int .i64 r.time, .bool r.bare, .string r.key, .bool r.gone, .string r.value, .slice A r.heads.length c]] W (Good W (cmV r)) := by
  cases hg : r.gone with
  | true =>
    cases hE : enOk (cmK r) (cmA r) r.time with
    | false => rw [← hg]; exact cm_bad_g r A c W hR hg hE
    | true =>
      cases hS : decide (encS r = encS (enRec (cmK r) (cmA r) r.time)) with
      | true => rw [← hg]; exact cm_yes_g r A c W hR hg hE hS
      | false => rw [← hg]; exact cm_no_g r A c W hR hg hE hS
  | false =>
    cases hE : enOk (cmK r) (cmA r) r.time with
    | false => rw [← hg]; exact cm_bad_v r A c W hR hg hE
    | true =>
      cases hS : decide (encS r = encS (enRec (cmK r) (cmA r) r.time)) with
      | true => rw [← hg]; exact cm_yes_v r A c W hR hg hE hS
      | false => rw [← hg]; exact cm_no_v r A c W hR hg hE hS
end Go.Proofs.Ytlkhfgkgngcakaa
