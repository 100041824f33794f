/- expr: Parse, the program's and the document's, by contracts. -/
import Derived.Test.YtneholfghffpfaaExPt
import Derived.Test.YtneholfghffpfaaExRp
import Derived.Test.YtneholfghffpfaaExSz
import Derived.Test.YtneholfghffpfaaExChk
import Derived.RegionTactic
namespace Go.Proofs.Ytneholfghffpfaa
open Go.RowKit
set_option linter.unusedVariables false
def trZ : Tr := .mk 0 ⟨#[]⟩ ⟨#[]⟩ []
/-- What Parse hands back. -/
def parseG (s : ByteArray) : Tr × Int :=
  if (partG s 6 0 0).2.2.2 ≠ 0 then (trZ, (partG s 6 0 0).2.2.2) else if (partG s 6 0 0).2.1 = s.size ∧ checkG (partG s 6 0 0).1 = 0 then ((partG s 6 0 0).1, 0) else (trZ, 3)
def GotTree (W : World) (r : Tr × Int) (en : Ending) (w' : World) : Prop :=
  ∃ A c, en = .returned (.tuple #[exV r.1 A c, .int .i64 r.2]) ∧ TrAt (fun b => W.heap.size ≤ b) w' 6 A r.1 ∧ Below W.heap.size W w'
theorem trZ_at (ok : Nat → Prop) (w : World) (d : Nat) (A : Option Addr) : TrAt ok w d A trZ := by
  have hN : NodeOk trZ := exNode (by decide) (by decide) (Nat.zero_le _) (Nat.zero_le _) (Nat.zero_le _)
  cases d with
  | zero => exact ⟨hN, rfl⟩
  | succ d => exact ⟨hN, fun h => absurd h (by decide)⟩
/-- The state of Parse behind its part. -/
structure ParAt (ty : TypeId) (W : World) (s : ByteArray) (p n e : Int) (xb : Nat) (t : Tr) (A : Option Addr) (c : Nat) (w : World) : Prop where
  lt : W.heap.size + 1 < xb
  res : Box w W.heap.size 24 #[.int .i64 0, .string ⟨#[]⟩, .string ⟨#[]⟩, .slice none 0 0]
  rd : Box w (W.heap.size + 1) ty (xrC s p n e)
  x : Box w xb 24 (exC t A c)
  tree : TrAt (fun b => W.heap.size + 2 ≤ b) w 6 A t
  bel : Below W.heap.size W w
section
variable {ty : TypeId} {W w w' : World} {s : ByteArray} {p n e p' n' e' : Int} {xb : Nat} {t : Tr} {A : Option Addr} {c : Nat}
theorem ParAt.later (h : ParAt ty W s p n e xb t A c w) (hb : Below w.heap.size w w') : ParAt ty W s p n e xb t A c w' :=
  ⟨h.lt, h.res.later hb, h.rd.later hb, h.x.later hb, h.tree.below hb, h.bel.trans (hb.mono h.bel.size)⟩
theorem ParAt.moved (h : ParAt ty W s p n e xb t A c w) (hb : Box w' (W.heap.size + 1) ty (xrC s p' n' e')) (ho : Off (· = W.heap.size + 1) w w') : ParAt ty W s p' n' e' xb t A c w' := by
  have h1 := h.lt
  exact ⟨h.lt, h.res.off ho (by omega), hb, h.x.off ho (by omega), h.tree.off ho.size (fun b hb hok => ho.block b hb (by omega)), h.bel.trans (ho.below h.bel.size (fun k hk => by omega))⟩
theorem ParAt.seterr (h : ParAt ty W s p n e xb t A c w) (e' : Int) : ParAt ty W s p n e' xb t A c (w.setCell ⟨W.heap.size + 1, 3, none⟩ (.int .i64 e')) :=
  h.moved (h.rd.set 3 _) (Off.one w ⟨W.heap.size + 1, 3, none⟩ _)
theorem ParAt.cells (h : ParAt ty W s p n e xb t A c w) :
    w.cell? ⟨xb, 0, none⟩ = some (.int .i64 t.op) ∧ w.cell? ⟨xb, 1, none⟩ = some (.string t.name) ∧ w.cell? ⟨xb, 2, none⟩ = some (.string t.value) ∧ w.cell? ⟨xb, 3, none⟩ = some (.slice A t.kids.length c) := ⟨h.x.cell 0, h.x.cell 1, h.x.cell 2, h.x.cell 3⟩
theorem ParAt.resc (h : ParAt ty W s p n e xb t A c w) :
    w.cell? ⟨W.heap.size, 0, none⟩ = some (.int .i64 0) ∧ w.cell? ⟨W.heap.size, 1, none⟩ = some (.string ⟨#[]⟩) ∧ w.cell? ⟨W.heap.size, 2, none⟩ = some (.string ⟨#[]⟩) ∧ w.cell? ⟨W.heap.size, 3, none⟩ = some (.slice none 0 0) ∧
    w.frozen? ⟨W.heap.size, 0, none⟩ = false ∧ w.frozen? ⟨W.heap.size, 1, none⟩ = false ∧ w.frozen? ⟨W.heap.size, 2, none⟩ = false ∧ w.frozen? ⟨W.heap.size, 3, none⟩ = false :=
  ⟨h.res.cell 0, h.res.cell 1, h.res.cell 2, h.res.cell 3, h.res.frozen 0, h.res.frozen 1, h.res.frozen 2, h.res.frozen 3⟩
theorem ParAt.start {W1 : World} {R : Tr × Int × Int × Int} (hr : Box W1 W.heap.size 24 #[.int .i64 0, .string ⟨#[]⟩, .string ⟨#[]⟩, .slice none 0 0]) (hs : W1.heap.size = W.heap.size + 1 + 1) (hb : Below W.heap.size W W1)
    (hT : TrAt (fun b => W1.heap.size ≤ b) w 6 A R.1) (hx : Box w (W.heap.size + 1) ty (xrC s R.2.1 R.2.2.1 R.2.2.2)) (ho : Off (· = W.heap.size + 1) W1 w) :
    ParAt ty W s R.2.1 R.2.2.1 R.2.2.2 w.heap.size R.1 A c (w.alloc (.cells (exC R.1 A c) 24)) := by
  have h1 := ho.size
  refine ⟨by omega, (hr.off ho (by omega)).alloc _, hx.alloc _, Box.new _ _ _, ?_, (hb.trans (ho.below (by omega) (fun k hk => by omega))).alloc (by omega) _⟩
  exact (hT.mono (ok' := fun b => W.heap.size + 2 ≤ b) (fun b _ hok => by omega)).off (by simp) (fun b hb _ => Below.heap_alloc _ _ _ hb)
end
theorem parse_result {w : World} (g : Nat) {v0 v1 v2 v3 y : Value} (h : Box w g 24 #[v0, v1, v2, v3]) (tmps : Array Value) (ht : (tmps[2]?).getD undef = .pointer (some ⟨g, 0, none⟩)) (h3 : (tmps[3]?).getD undef = y) :
    (results Try.f19 tmps).run Try.prog w = .ok (.tuple #[.agg #[v0, v1, v2, v3], y]) w := by
  have c0 := (h.cell 0).trans (show _ = some v0 from rfl)
  have c1 := (h.cell 1).trans (show _ = some v1 from rfl)
  have c2 := (h.cell 2).trans (show _ = some v2 from rfl)
  have c3 := (h.cell 3).trans (show _ = some v3 from rfl)
  simp [results, Try.results19, go_sem, ht, h3, c0, c1, c2, c3]
set_option maxHeartbeats 4000000 in
set_option maxRecDepth 100000 in
theorem parse_c (s : ByteArray) (W : World) (hs : s.size ≤ 1152921504606846976) : Calls Try.prog 19 #[.string s] W (GotTree W (parseG s)) := by
  have hpart := fun rb w (h : Box w rb 56 (xrC s 0 0 0)) => part_c s hs 6 1 0 0 rb w (by decide) (by decide) ⟨by omega, by omega⟩ ⟨by omega, by omega⟩ h
  have hdem := fun w p n e r (h : Box w (W.heap.size + 1) 56 (xrC s p n e)) => xdem_c s p n e r (W.heap.size + 1) w h
  have hmay := fun w ok A c (h : TrAt ok w 6 A (partG s 6 0 0).1) => mayBe_c ok 6 (partG s 6 0 0).1 A c w (by decide) h
  have HPG : Hid (parseG s = if (partG s 6 0 0).2.2.2 ≠ 0 then (trZ, (partG s 6 0 0).2.2.2) else if (partG s 6 0 0).2.1 = s.size ∧ checkG (partG s 6 0 0).1 = 0 then ((partG s 6 0 0).1, 0) else (trZ, 3)) := Lib.hid rfl
  generalize parseG s = R at *
  have HOKS := Lib.hid (partG_ok s 6 0 0 (by omega) (by omega) (by omega))
  generalize partG s 6 0 0 = r at *
  have H0 : Hid (Box ((W.alloc (.cells #[.int .i64 0, .string ⟨#[]⟩, .string ⟨#[]⟩, .slice none 0 0] 24)).alloc (.cells #[.string s, .int .i64 0, .int .i64 0, .int .i64 0] 56)) W.heap.size 24 #[.int .i64 0, .string ⟨#[]⟩, .string ⟨#[]⟩, .slice none 0 0]) := Lib.hid ((Box.new _ _ _).alloc _)
  have H1 : Hid (Box ((W.alloc (.cells #[.int .i64 0, .string ⟨#[]⟩, .string ⟨#[]⟩, .slice none 0 0] 24)).alloc (.cells #[.string s, .int .i64 0, .int .i64 0, .int .i64 0] 56)) (W.heap.size + 1) 56 (xrC s 0 0 0)) := Lib.hid (by have h1 := Box.new (W.alloc (.cells #[.int .i64 0, .string ⟨#[]⟩, .string ⟨#[]⟩, .slice none 0 0] 24)) 56 (xrC s 0 0 0); simpa [xrC] using h1)
  have hlt := H1.out.lt
  have hpart2 : ∀ rb w, Box w rb 56 (xrC s 0 0 0) → Calls Try.prog 34 #[.pointer (some ⟨rb, 0, none⟩), .int .i64 1] w (fun en w' => ∃ A2 c2, en = .returned (.agg #[.int .i64 r.1.op, .string r.1.name, .string r.1.value, .slice A2 r.1.kids.length c2]) ∧ TrAt (fun b => w.heap.size ≤ b) w' 6 A2 r.1 ∧ Box w' rb 56 (xrC s r.2.1 r.2.2.1 r.2.2.2) ∧ Off (· = rb) w w') := hpart
  clear hpart
  go_enter Try.func19, Try.ntmps19
  go_wp2_with fail
  with_reducible refine (hpart2 _ _ H1.out).mono ?_
  rintro en w1 ⟨A, c, rfl, hT, hb1, ho1⟩
  have HP : Hid (ParAt 56 W s r.2.1 r.2.2.1 r.2.2.2 w1.heap.size r.1 A c (w1.alloc (.cells (exC r.1 A c) 24))) := Lib.hid (ParAt.start H0.out (by simp) (((Below.refl _ _).alloc (Nat.le_refl _) _).alloc (by simp) _) hT hb1 ho1)
  have hk := hT.node.kids
  have hdd := hT.depD
  clear hT hb1 ho1 hpart2
  have hsame := check_same hdd hdd (by decide)
  have HCS := Lib.hid hsame
  clear hsame hdd
  unfold exV exC at *
  obtain ⟨t, p1, n1, e1⟩ := r
  simp only at *
  obtain ⟨x0, x1, x2, x3⟩ := HP.out.cells
  obtain ⟨y0, y1, y2, y3, z0, z1, z2, z3⟩ := HP.out.rd.xr
  generalize (walkG mayV 6 0 t 1).1 = m at *
  go_upto_region 3 with fail
  go_cut [] (fun w => ParAt 56 W s p1 n1 (demG e1 (decide (p1 = s.size) && m)) w1.heap.size t A c w)
  case first =>
    by_cases hp : p1 = (s.size : Int)
    · subst hp
      have hdec : Hid ((decide ((s.size : Int) = s.size) && m) = m) := Lib.hid (by simp)
      go_wp2_with fail
      with_reducible refine (hmay _ _ _ _ HP.out.tree).mono ?_
      rintro en w2 ⟨rfl, hb2⟩
      have HP2 := Lib.hid (HP.out.later hb2)
      clear hb2
      go_wp2_with fail
      with_reducible refine (hdem _ _ _ _ _ HP2.out.rd).mono ?_
      rintro en w3 ⟨rfl, hb3, ho3⟩
      have HP3 := Lib.hid (HP2.out.moved hb3 ho3)
      clear hb3 ho3
      go_wp2_with fail
      go_meet
      rw [hdec.out]
      exact HP3.out
    · have hdec : Hid ((decide (p1 = s.size) && m) = false) := Lib.hid (by rw [decide_eq_false hp]; rfl)
      have hq : (p1 == (s.size : Int)) = false := by rw [beq_eq_false_iff_ne]; exact hp
      have hq2 : decide (p1 = (s.size : Int)) = false := decide_eq_false hp
      clear hp
      go_wp2_with fail
      with_reducible refine (hdem _ _ _ _ _ HP.out.rd).mono ?_
      rintro en w3 ⟨rfl, hb3, ho3⟩
      have HP3 := Lib.hid (HP.out.moved hb3 ho3)
      clear hb3 ho3
      go_wp2_with fail
      go_meet
      rw [hdec.out]
      exact HP3.out
  case rest =>
    have HP3 := Lib.hid hcut
    clear hcut HP x0 x1 x2 x3 y0 y1 y2 y3 z0 z1 z2 z3 hmay hdem
    have HD : Hid (R = if demG e1 (decide (p1 = s.size) && m) ≠ 0 then (trZ, demG e1 (decide (p1 = s.size) && m)) else (t, 0)) := Lib.hid (by
      have hcs := HCS.out
      rw [HPG.out]
      by_cases q : e1 = 0
      · subst q
        cases m with
        | false =>
          have hc : checkG t = 1 := by rw [← hcs]; rfl
          rw [if_neg (by simp), if_neg (by omega), Bool.and_false]
          rfl
        | true =>
          have hc : checkG t = 0 := by rw [← hcs]; rfl
          by_cases hp : p1 = s.size
          · rw [if_neg (by simp), if_pos ⟨hp, hc⟩, decide_eq_true hp]; rfl
          · rw [if_neg (by simp), if_neg (fun x => hp x.1), decide_eq_false hp]; rfl
      · have hd : demG e1 (decide (p1 = s.size) && m) = e1 := by unfold demG; rw [if_neg (fun x => q x.1)]
        rw [if_pos q, hd, if_pos q])
    generalize demG e1 (decide (p1 = s.size) && m) = e2 at *
    obtain ⟨x0, x1, x2, x3⟩ := HP3.out.cells
    obtain ⟨y0, y1, y2, y3, z0, z1, z2, z3⟩ := HP3.out.rd.xr
    obtain ⟨k0, k1, k2, k3, l0, l1, l2, l3⟩ := HP3.out.resc
    by_cases he : e2 = 0
    · subst he
      have HDD : Hid (R = (t, 0)) := Lib.hid (by rw [HD.out, if_neg (by simp)])
      have HO : Hid (Off (· = W.heap.size) wc ((((wc.setCell ⟨W.heap.size, 0, none⟩ (.int .i64 t.op)).setCell ⟨W.heap.size, 1, none⟩ (.string t.name)).setCell ⟨W.heap.size, 2, none⟩ (.string t.value)).setCell ⟨W.heap.size, 3, none⟩ (.slice A t.kids.length c))) :=
        Lib.hid (((((Off.refl (· = W.heap.size) wc).set (.inl rfl) _).set (.inl rfl) _).set (.inl rfl) _).set (.inl rfl) _)
      have HB := Lib.hid ((((HP3.out.res.set 0 (.int .i64 t.op)).set 1 (.string t.name)).set 2 (.string t.value)).set 3 (.slice A t.kids.length c))
      go_wp2_with fail
      refine bodyPost_ret (parse_result W.heap.size HB.out _ rfl rfl) rfl ?_
      rw [HDD.out]
      refine ⟨A, c, rfl, (HP3.out.tree.off HO.out.size (fun b hb hok => HO.out.block b hb (by omega))).mono (fun b _ hok => by omega), ?_⟩
      exact HP3.out.bel.trans (HO.out.below HP3.out.bel.size (fun k hk => by omega))
    · have HDD : Hid (R = (trZ, e2)) := Lib.hid (by rw [HD.out, if_pos he])
      have e1' : (e2 == 0) = false := by rw [beq_eq_false_iff_ne]; exact he
      have e2' : (e2 != 0) = true := by simpa using he
      clear he
      have HO : Hid (Off (· = W.heap.size) wc ((((wc.setCell ⟨W.heap.size, 0, none⟩ (.int .i64 0)).setCell ⟨W.heap.size, 1, none⟩ (.string ⟨#[]⟩)).setCell ⟨W.heap.size, 2, none⟩ (.string ⟨#[]⟩)).setCell ⟨W.heap.size, 3, none⟩ (.slice none 0 0)).drew) :=
        Lib.hid ((((((Off.refl (· = W.heap.size) wc).set (.inl rfl) _).set (.inl rfl) _).set (.inl rfl) _).set (.inl rfl) _).drew)
      have HB := Lib.hid ((((HP3.out.res.set 0 (.int .i64 0)).set 1 (.string ⟨#[]⟩)).set 2 (.string ⟨#[]⟩)).set 3 (.slice none 0 0)).drew
      go_wp2_with fail
      go_region
      all_goals
        go_wp2_with fail
        refine bodyPost_ret (parse_result W.heap.size HB.out _ rfl rfl) rfl ?_
        rw [HDD.out]
        exact ⟨none, 0, rfl, trZ_at _ _ _ _, HP3.out.bel.trans (HO.out.below HP3.out.bel.size (fun k hk => by omega))⟩
theorem rparse_result {w : World} (g : Nat) {v0 v1 v2 v3 y : Value} (h : Box w g 24 #[v0, v1, v2, v3]) (tmps : Array Value) (ht : (tmps[2]?).getD undef = .pointer (some ⟨g, 0, none⟩)) (h3 : (tmps[3]?).getD undef = y) :
    (results Try.f20 tmps).run Try.prog w = .ok (.tuple #[.agg #[v0, v1, v2, v3], y]) w := by
  have c0 := (h.cell 0).trans (show _ = some v0 from rfl)
  have c1 := (h.cell 1).trans (show _ = some v1 from rfl)
  have c2 := (h.cell 2).trans (show _ = some v2 from rfl)
  have c3 := (h.cell 3).trans (show _ = some v3 from rfl)
  simp [results, Try.results20, go_sem, ht, h3, c0, c1, c2, c3]
set_option maxHeartbeats 4000000 in
set_option maxRecDepth 100000 in
theorem rparse_c (s : ByteArray) (W : World) (hs : s.size ≤ 1152921504606846976) : Calls Try.prog 20 #[.string s] W (GotTree W (parseG s)) := by
  have hpart := fun rb w (h : Box w rb 61 (xrC s 0 0 0)) => rexpr_c s hs 6 6 0 0 rb w (by decide) (by decide) ⟨by omega, by omega⟩ ⟨by omega, by omega⟩ h
  have hchk := fun w ok A c (h : TrAt ok w 6 A (partG s 6 0 0).1) => rCheck_c ok 6 (partG s 6 0 0).1 A c w h
  have HPG : Hid (parseG s = if (partG s 6 0 0).2.2.2 ≠ 0 then (trZ, (partG s 6 0 0).2.2.2) else if (partG s 6 0 0).2.1 = s.size ∧ checkG (partG s 6 0 0).1 = 0 then ((partG s 6 0 0).1, 0) else (trZ, 3)) := Lib.hid rfl
  generalize parseG s = R at *
  have HOKS := Lib.hid (partG_ok s 6 0 0 (by omega) (by omega) (by omega))
  generalize partG s 6 0 0 = r at *
  have H0 : Hid (Box ((W.alloc (.cells #[.int .i64 0, .string ⟨#[]⟩, .string ⟨#[]⟩, .slice none 0 0] 24)).alloc (.cells #[.string s, .int .i64 0, .int .i64 0, .int .i64 0] 61)) W.heap.size 24 #[.int .i64 0, .string ⟨#[]⟩, .string ⟨#[]⟩, .slice none 0 0]) := Lib.hid ((Box.new _ _ _).alloc _)
  have H1 : Hid (Box ((W.alloc (.cells #[.int .i64 0, .string ⟨#[]⟩, .string ⟨#[]⟩, .slice none 0 0] 24)).alloc (.cells #[.string s, .int .i64 0, .int .i64 0, .int .i64 0] 61)) (W.heap.size + 1) 61 (xrC s 0 0 0)) := Lib.hid (by have h1 := Box.new (W.alloc (.cells #[.int .i64 0, .string ⟨#[]⟩, .string ⟨#[]⟩, .slice none 0 0] 24)) 61 (xrC s 0 0 0); simpa [xrC] using h1)
  have hlt := H1.out.lt
  have hpart2 : ∀ rb w, Box w rb 61 (xrC s 0 0 0) → Calls Try.prog 36 #[.pointer (some ⟨rb, 0, none⟩), .int .i64 6] w (fun en w' => ∃ A2 c2, en = .returned (.agg #[.int .i64 r.1.op, .string r.1.name, .string r.1.value, .slice A2 r.1.kids.length c2]) ∧ TrAt (fun b => w.heap.size ≤ b) w' 6 A2 r.1 ∧ Box w' rb 61 (xrC s r.2.1 r.2.2.1 r.2.2.2) ∧ Off (· = rb) w w') := hpart
  clear hpart
  go_enter Try.func20, Try.ntmps20
  go_wp2_with fail
  with_reducible refine (hpart2 _ _ H1.out).mono ?_
  rintro en w1 ⟨A, c, rfl, hT, hb1, ho1⟩
  have HP : Hid (ParAt 61 W s r.2.1 r.2.2.1 r.2.2.2 w1.heap.size r.1 A c (w1.alloc (.cells (exC r.1 A c) 24))) := Lib.hid (ParAt.start H0.out (by simp) (((Below.refl _ _).alloc (Nat.le_refl _) _).alloc (by simp) _) hT hb1 ho1)
  have hk := hT.node.kids
  clear hT hb1 ho1 hpart2
  unfold exV exC at *
  obtain ⟨t, p1, n1, e1⟩ := r
  simp only at *
  have hchk2 : ∀ w ok A c, TrAt ok w 6 A t → Calls Try.prog 12 #[.agg #[.int .i64 t.op, .string t.name, .string t.value, .slice A t.kids.length c]] w (Good w (.int .i64 (checkG t))) := hchk
  clear hchk
  have hcr : checkG t = 0 ∨ checkG t = 1 := by unfold checkG; split <;> simp
  generalize checkG t = ck at *
  obtain ⟨x0, x1, x2, x3⟩ := HP.out.cells
  obtain ⟨y0, y1, y2, y3, z0, z1, z2, z3⟩ := HP.out.rd.xr
  have HPL := Lib.hid (fun h : e1 = 0 => (HOKS.out h).1.2.2.1)
  obtain ⟨bad, hbad⟩ : ∃ bad, bad = decide (e1 = 0 ∧ ¬ (p1 = s.size ∧ ck = 0)) := ⟨_, rfl⟩
  have HBD := Lib.hid hbad
  clear hbad
  go_upto_region 3 with fail
  go_cut [29] (fun f w => f = .bool bad ∧ ParAt 61 W s p1 n1 e1 w1.heap.size t A c w)
  case first =>
    by_cases he : e1 = 0
    · subst he
      have hple := HPL.out rfl
      by_cases hp : p1 = (s.size : Int)
      · subst hp
        have hdec : Hid (bad = decide (¬ ck = 0)) := Lib.hid (by rw [HBD.out]; congr 1; apply propext; simp)
        have hlf : decide ((s.size : Int) < s.size) = false := decide_eq_false (by omega)
        rcases hcr with rfl | rfl
        all_goals
          go_wp2_with fail
          with_reducible refine (hchk2 _ _ _ _ HP.out.tree).mono ?_
          rintro en w2 ⟨rfl, hb2⟩
          have HP2 := Lib.hid (HP.out.later hb2)
          clear hb2
          go_wp2_with fail
          go_meet
          rw [hdec.out]
          exact ⟨rfl, HP2.out⟩
      · have hdec : Hid (bad = true) := Lib.hid (by rw [HBD.out]; exact decide_eq_true ⟨rfl, fun x => hp x.1⟩)
        have hq : p1 < (s.size : Int) := by omega
        have hq2 : decide (p1 < (s.size : Int)) = true := decide_eq_true hq
        clear hp
        go_wp2_with fail
        go_meet
        rw [hdec.out]
        exact ⟨rfl, HP.out⟩
    · have hdec : Hid (bad = false) := Lib.hid (by rw [HBD.out]; exact decide_eq_false (fun x => he x.1))
      have e1' : (e1 == 0) = false := by rw [beq_eq_false_iff_ne]; exact he
      clear he
      go_wp2_with fail
      go_meet
      rw [hdec.out]
      exact ⟨rfl, HP.out⟩
  case rest =>
    obtain ⟨rfl, hP⟩ := hcut
    have HP2 := Lib.hid hP
    clear hP HP x0 x1 x2 x3 y0 y1 y2 y3 z0 z1 z2 z3 hchk2
    obtain ⟨y0, y1, y2, y3, z0, z1, z2, z3⟩ := HP2.out.rd.xr
    go_upto_if 29 with fail
    go_cut [] (fun w => ParAt 61 W s p1 n1 (if bad = true then 3 else e1) w1.heap.size t A c w)
    case first =>
      have HP5 := Lib.hid (HP2.out.seterr 3)
      clear HBD
      cases bad with
      | true =>
        go_wp2_with fail
        go_meet
        exact HP5.out
      | false =>
        go_wp2_with fail
        go_meet
        exact HP2.out
    case rest =>
      have HP3 := Lib.hid hcut
      clear hcut HP2 y0 y1 y2 y3 z0 z1 z2 z3
      have HD : Hid (R = if (if bad = true then 3 else e1) ≠ 0 then (trZ, if bad = true then 3 else e1) else (t, 0)) := Lib.hid (by
        rw [HPG.out, HBD.out]
        by_cases q : e1 = 0
        · subst q
          by_cases hp : p1 = s.size ∧ ck = 0
          · rw [if_neg (by simp), if_pos hp, decide_eq_false (fun x => x.2 hp)]; simp
          · rw [if_neg (by simp), if_neg hp, decide_eq_true ⟨rfl, hp⟩]; simp
        · rw [if_pos q, decide_eq_false (fun x => q x.1)]; simp [q])
      generalize (if bad = true then 3 else e1) = e2 at *
      obtain ⟨x0, x1, x2, x3⟩ := HP3.out.cells
      obtain ⟨y0, y1, y2, y3, z0, z1, z2, z3⟩ := HP3.out.rd.xr
      obtain ⟨k0, k1, k2, k3, l0, l1, l2, l3⟩ := HP3.out.resc
      clear HBD HOKS HPG HPL
      by_cases he : e2 = 0
      · subst he
        have HDD : Hid (R = (t, 0)) := Lib.hid (by rw [HD.out, if_neg (by simp)])
        have HO : Hid (Off (· = W.heap.size) wc ((((wc.setCell ⟨W.heap.size, 0, none⟩ (.int .i64 t.op)).setCell ⟨W.heap.size, 1, none⟩ (.string t.name)).setCell ⟨W.heap.size, 2, none⟩ (.string t.value)).setCell ⟨W.heap.size, 3, none⟩ (.slice A t.kids.length c))) :=
          Lib.hid (((((Off.refl (· = W.heap.size) wc).set (.inl rfl) _).set (.inl rfl) _).set (.inl rfl) _).set (.inl rfl) _)
        have HB := Lib.hid ((((HP3.out.res.set 0 (.int .i64 t.op)).set 1 (.string t.name)).set 2 (.string t.value)).set 3 (.slice A t.kids.length c))
        go_wp2_with fail
        refine bodyPost_ret (rparse_result W.heap.size HB.out _ rfl rfl) rfl ?_
        rw [HDD.out]
        refine ⟨A, c, rfl, (HP3.out.tree.off HO.out.size (fun b hb hok => HO.out.block b hb (by omega))).mono (fun b _ hok => by omega), ?_⟩
        exact HP3.out.bel.trans (HO.out.below HP3.out.bel.size (fun k hk => by omega))
      · have HDD : Hid (R = (trZ, e2)) := Lib.hid (by rw [HD.out, if_pos he])
        have e1' : (e2 == 0) = false := by rw [beq_eq_false_iff_ne]; exact he
        have e2' : (e2 != 0) = true := by simpa using he
        clear he
        have HO : Hid (Off (· = W.heap.size) wc ((((wc.setCell ⟨W.heap.size, 0, none⟩ (.int .i64 0)).setCell ⟨W.heap.size, 1, none⟩ (.string ⟨#[]⟩)).setCell ⟨W.heap.size, 2, none⟩ (.string ⟨#[]⟩)).setCell ⟨W.heap.size, 3, none⟩ (.slice none 0 0)).drew) :=
          Lib.hid ((((((Off.refl (· = W.heap.size) wc).set (.inl rfl) _).set (.inl rfl) _).set (.inl rfl) _).set (.inl rfl) _).drew)
        have HB := Lib.hid ((((HP3.out.res.set 0 (.int .i64 0)).set 1 (.string ⟨#[]⟩)).set 2 (.string ⟨#[]⟩)).set 3 (.slice none 0 0)).drew
        go_wp2_with fail
        go_region
        all_goals
          go_wp2_with fail
          refine bodyPost_ret (rparse_result W.heap.size HB.out _ rfl rfl) rfl ?_
          rw [HDD.out]
          exact ⟨none, 0, rfl, trZ_at _ _ _ _, HP3.out.bel.trans (HO.out.below HP3.out.bel.size (fun k hk => by omega))⟩
end Go.Proofs.Ytneholfghffpfaa
