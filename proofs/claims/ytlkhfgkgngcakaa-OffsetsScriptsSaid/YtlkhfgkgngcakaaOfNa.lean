/- offsets: the document's Apply, by a contract. No condition but that they are not too many. -/
import Derived.Test.YtlkhfgkgngcakaaOfMa
import Derived.Test.YtlkhfgkgngcakaaOfAy
import Derived.Test.YtlkhfgkgngcakaaOfOt
import Derived.Test.YtlkhfgkgngcakaaOfMb
namespace Go.Proofs.Ytlkhfgkgngcakaa
open Go.RowKit Go.WideAt
set_option linter.unusedVariables false
/-- While it goes on: the document's rows, the record's box. -/
structure DaI (W : World) (base p : Nat) (room : Int) (L : List KE) (A : Option Addr) (c : Nat) (cs : Array Value) (w : World) : Prop where
  is : RdIs w base p room L A c
  rb : Box w W.heap.size 34 cs
  below : Below W.heap.size W w
theorem DaI.later {W w w' : World} {base p c : Nat} {room : Int} {L : List KE} {A : Option Addr} {cs : Array Value} (h : DaI W base p room L A c cs w) (hb : Below w.heap.size w w') : DaI W base p room L A c cs w' :=
  ⟨h.is.later hb, h.rb.later hb, h.below.trans (hb.mono h.below.size)⟩
theorem DaI.gots {W w : World} {base p c : Nat} {room : Int} {L F : List KE} {A : Option Addr} {cs : Array Value} (h : DaI W base p room L A c cs w) (hD : DL L F) (hb : base ≤ W.heap.size) (v : Value) : GotS2 W base p room F v (.returned v) w := ⟨rfl, ⟨L, A, c, h.is, hD⟩, KeepO.of_below h.below, h.below.mono hb⟩
theorem DaI.then {W w w' : World} {base p c : Nat} {room : Int} {L F : List KE} {A : Option Addr} {cs : Array Value} (h : DaI W base p room L A c cs w) (hb : base ≤ W.heap.size) {v u : Value} {e : Ending} (hw : GotS2 w base p room F v e w') : GotS2 W base p room F u (.returned u) w' :=
  ⟨rfl, hw.2.1, (KeepO.of_below h.below).trans hw.2.2.1, (h.below.mono hb).trans hw.2.2.2⟩
theorem DaI.cut {W w w' : World} {base p c : Nat} {room : Int} {L G F : List KE} {A : Option Addr} {cs : Array Value} (h : DaI W base p room L A c cs w) (hb : base ≤ W.heap.size) {v u : Value} {e : Ending} (hw : GotD w base p room G v e w') (hG : DL G F) : GotS2 W base p room F u (.returned u) w' := by
  obtain ⟨A', c', h'⟩ := hw.2.1
  exact ⟨rfl, ⟨G, A', c', h', hG⟩, (KeepO.of_below h.below).trans hw.2.2.1, (h.below.mono hb).trans hw.2.2.2⟩
theorem ap_no {room : Int} {F : List KE} {r : Rec} (h : ¬ cmOk r = true) : apE room F r = 3 ∧ apS room F r = F := by unfold apE apS; exact ⟨if_neg h, if_neg h⟩
theorem ap_cut {room : Int} {F : List KE} {r : Rec} (h : cmOk r = true) (ha : cmA r = -1) : apE room F r = 0 ∧ apS room F r = minK F (kyB (cmK r)) := by
  unfold apE apS; rw [if_pos h, if_pos h, if_pos ha, if_pos ha]; exact ⟨rfl, rfl⟩
theorem ap_put {room : Int} {F : List KE} {r : Rec} (h : cmOk r = true) (ha : ¬ cmA r = -1) : apE room F r = coR room F (cmK r) (cmA r) ∧ apS room F r = coS room F (cmK r) (cmA r) := by
  unfold apE apS; rw [if_pos h, if_pos h, if_neg ha, if_neg ha]; exact ⟨rfl, rfl⟩
theorem DL.gone {room : Int} {L F : List KE} (hD : DL L F) (ho : FOk room F) {k : KY} (hk : KyOk k) (h : findD L k = -1) : DL L (minK F (kyB k)) := by
  have : ofK F (kyB k) = none := by
    cases hf : ofK F (kyB k) with
    | none => rfl
    | some e =>
      obtain ⟨e', he, hke⟩ := (hD.has ho hk).1 (by rw [hf]; rfl)
      obtain ⟨i, e2, h1, _⟩ := findD_some he hke
      rw [h] at h1; omega
  rw [minK_none this]
  exact hD
set_option maxHeartbeats 16000000 in
set_option maxRecDepth 100000 in
theorem dapply_c (base p c : Nat) (room : Int) (L F : List KE) (A : Option Addr) (r : Rec) (RA : Option Addr) (rc : Nat) (W : World) (h : RdIs W base p room L A c) (hD : DL L F) (ho : FOk room F) (hbase : base ≤ W.heap.size) (hp : base ≤ p) (hR : RIn W r RA rc) :
    Calls Try.prog 24 #[.pointer (some ⟨p, 0, none⟩), recV r RA rc] W (GotS2 W base p room (apS room F r) (.int .i64 (apE room F r))) := by
  have hl : L.length ≤ 1000000 := by rw [hD.len]; exact ho.many
  have hBA := (Below.refl W.heap.size W).alloc (Nat.le_refl _) (.cells (recC r RA rc) 34)
  have H0 := Lib.hid (show DaI W base p room L A c (recC r RA rc) _ from ⟨h.later hBA, Box.new _ _ _, hBA⟩)
  have HDL := Lib.hid hD
  have HOK := Lib.hid ho
  have HBA := Lib.hid hbase
  have HP := Lib.hid hp
  have k1 := fun w => rtake_c r.key 0 100 w hR.key
  have k2 := fun w => rtake_c r.key (dk1 r).2.1 100 w hR.key
  have k3 := fun w => rget_c r.key (dk2 r).2.1 w hR.key
  have k4 := fun w => rget_c r.value 0 w hR.value
  have g1 : (dk1 r).2.2 = 0 → ((dk1 r).1.size : Int) ≤ 100 := fun e => (take_ok e).2
  have g2 : (dk2 r).2.2 = 0 → ((dk2 r).1.size : Int) ≤ 100 := fun e => (take_ok e).2
  change ∀ w, Calls _ _ _ _ (Good w (Sri (dk1 r).1 (dk1 r).2.1 (dk1 r).2.2)) at k1
  change ∀ w, Calls _ _ _ _ (Good w (Sri (dk2 r).1 (dk2 r).2.1 (dk2 r).2.2)) at k2
  change ∀ w, Calls _ _ _ _ (Good w (Tri (dk3 r).1 (dk3 r).2.1 (dk3 r).2.2)) at k3
  have hK : cmK r = ⟨(dk1 r).1, (dk2 r).1, (dk3 r).1⟩ := rfl
  have hno : cmOk r = true → (dk1 r).2.2 = 0 ∧ (dk2 r).2.2 = 0 ∧ (dk3 r).2.2 = 0 ∧ (dk3 r).2.1 = r.key.size ∧ mayK (cmK r) = true ∧ r.bare = false ∧ r.place = 0 ∧ r.heads = [] ∧ 0 ≤ r.time ∧ r.time ≤ 1099511627776 ∧ (r.gone = true → r.value = ⟨#[]⟩) ∧ (r.gone = false → (getG r.value 0).2.2 = 0 ∧ (getG r.value 0).2.1 = r.value.size ∧ 0 ≤ (getG r.value 0).1 ∧ (getG r.value 0).1 ≤ 1099511627776) := by
    intro e
    obtain ⟨d, a, b⟩ := doc_of e
    exact ⟨d.e1, d.e2, d.e3, d.fin, d.may, d.bare, d.place, d.heads, d.t0, d.t1, a, fun e => ⟨(b e).e, (b e).fin, (b e).a0, (b e).a1⟩⟩
  have hg : (dk1 r).2.2 = 0 → (dk2 r).2.2 = 0 → (dk3 r).2.2 = 0 → (dk3 r).2.1 = r.key.size → mayK (cmK r) = true → r.bare = false → r.place = 0 → r.heads = [] → 0 ≤ r.time → r.time ≤ 1099511627776 → r.gone = true → r.value = ⟨#[]⟩ → cmOk r = true ∧ cmA r = -1 :=
    fun a1 a2 a3 a4 a5 a6 a7 a8 a9 a10 a11 a12 => cm_gone ⟨a1, a2, a3, a4, a5, a6, a7, a8, a9, a10⟩ a11 a12
  have hv : (dk1 r).2.2 = 0 → (dk2 r).2.2 = 0 → (dk3 r).2.2 = 0 → (dk3 r).2.1 = r.key.size → mayK (cmK r) = true → r.bare = false → r.place = 0 → r.heads = [] → 0 ≤ r.time → r.time ≤ 1099511627776 → r.gone = false → (getG r.value 0).2.2 = 0 → (getG r.value 0).2.1 = r.value.size → 0 ≤ (getG r.value 0).1 → (getG r.value 0).1 ≤ 1099511627776 → cmOk r = true ∧ cmA r = (getG r.value 0).1 :=
    fun a1 a2 a3 a4 a5 a6 a7 a8 a9 a10 a11 b1 b2 b3 b4 => cm_val ⟨a1, a2, a3, a4, a5, a6, a7, a8, a9, a10⟩ a11 ⟨b1, b2, b3, b4⟩
  have hno3 : ¬ cmOk r = true → apE room F r = 3 ∧ apS room F r = F := ap_no
  have hcut3 : cmOk r = true → cmA r = -1 → apE room F r = 0 ∧ apS room F r = minK F (kyB (cmK r)) := ap_cut
  have hput3 : cmOk r = true → ¬ cmA r = -1 → apE room F r = coR room F (cmK r) (cmA r) ∧ apS room F r = coS room F (cmK r) (cmA r) := ap_put
  have hhl := hR.len
  rw [hK] at hno hg hv hcut3 hput3
  generalize apE room F r = E at *
  generalize apS room F r = S at *
  generalize cmOk r = OK at *
  generalize cmA r = CA at *
  clear hK
  generalize (dk1 r).1 = T1 at *
  generalize (dk1 r).2.1 = A1 at *
  generalize (dk1 r).2.2 = E1 at *
  generalize (dk2 r).1 = T2 at *
  generalize (dk2 r).2.1 = A2 at *
  generalize (dk2 r).2.2 = E2 at *
  generalize (dk3 r).1 = I3 at *
  generalize (dk3 r).2.1 = A3 at *
  generalize (dk3 r).2.2 = E3 at *
  generalize (getG r.value 0).1 = N4 at *
  generalize (getG r.value 0).2.1 = A4 at *
  generalize (getG r.value 0).2.2 = E4 at *
  unfold recV recC at *
  clear hR h hD ho hbase hp hBA
  obtain ⟨place, time, bare, key, gone, value, heads⟩ := r
  dsimp only at *
  have HNO := Lib.hid hno
  have HG := Lib.hid hg
  have HV := Lib.hid hv
  have HN3 := Lib.hid hno3
  have HC3 := Lib.hid hcut3
  have HP3 := Lib.hid hput3
  clear hno hg hv hno3 hcut3 hput3
  unfold Good Tri Sri at *
  by_cases q1 : E1 = 0
  case neg =>
    have q2 : (E1 == 0) = false := by rw [beq_eq_false_iff_ne]; exact q1
    obtain ⟨⟨r0, r1, r2, r3, r4, r5, r6⟩, _, rl⟩ := box7 H0.out.rb
    go_enter Try.func24, Try.ntmps24
    go_wp2_with fail
    with_reducible refine (k1 _).mono ?_
    rintro en w1 ⟨rfl, hb⟩
    have H1 := Lib.hid (H0.out.later hb)
    clear hb k1 r0 r1 r2 r3 r4 r5 r6 rl H0
    obtain ⟨⟨r0, r1, r2, r3, r4, r5, r6⟩, _, rl⟩ := box7 H1.out.rb
    go_wp2_with fail
    go_ret
    have hN := HN3.out (fun e => by have := (HNO.out e).1; exact q1 this)
    rw [hN.1, hN.2]
    exact H1.out.gots HDL.out HBA.out _
  case pos =>
    subst q1
    have g1 := g1 rfl
    by_cases q2 : E2 = 0
    rotate_left
    · have q3 : (E2 == 0) = false := by rw [beq_eq_false_iff_ne]; exact q2
      obtain ⟨⟨r0, r1, r2, r3, r4, r5, r6⟩, _, rl⟩ := box7 H0.out.rb
      go_enter Try.func24, Try.ntmps24
      go_wp2_with fail
      with_reducible refine (k1 _).mono ?_
      rintro en w1 ⟨rfl, hb⟩
      have H1 := Lib.hid (H0.out.later hb)
      clear hb k1 r0 r1 r2 r3 r4 r5 r6 rl H0
      obtain ⟨⟨r0, r1, r2, r3, r4, r5, r6⟩, _, rl⟩ := box7 H1.out.rb
      go_wp2_with fail
      with_reducible refine (k2 _).mono ?_
      rintro en w2 ⟨rfl, hb⟩
      have H2 := Lib.hid (H1.out.later hb)
      clear hb k2 r0 r1 r2 r3 r4 r5 r6 rl H1
      obtain ⟨⟨r0, r1, r2, r3, r4, r5, r6⟩, _, rl⟩ := box7 H2.out.rb
      go_wp2_with fail
      go_ret
      have hN := HN3.out (fun e => by have := (HNO.out e).2.1; exact q2 this)
      rw [hN.1, hN.2]
      exact H2.out.gots HDL.out HBA.out _
    subst q2
    have g2 := g2 rfl
    by_cases q3 : E3 = 0
    rotate_left
    · have q4 : (E3 == 0) = false := by rw [beq_eq_false_iff_ne]; exact q3
      obtain ⟨⟨r0, r1, r2, r3, r4, r5, r6⟩, _, rl⟩ := box7 H0.out.rb
      go_enter Try.func24, Try.ntmps24
      go_wp2_with fail
      with_reducible refine (k1 _).mono ?_
      rintro en w1 ⟨rfl, hb⟩
      have H1 := Lib.hid (H0.out.later hb)
      clear hb k1 r0 r1 r2 r3 r4 r5 r6 rl H0
      obtain ⟨⟨r0, r1, r2, r3, r4, r5, r6⟩, _, rl⟩ := box7 H1.out.rb
      go_wp2_with fail
      with_reducible refine (k2 _).mono ?_
      rintro en w2 ⟨rfl, hb⟩
      have H2 := Lib.hid (H1.out.later hb)
      clear hb k2 r0 r1 r2 r3 r4 r5 r6 rl H1
      obtain ⟨⟨r0, r1, r2, r3, r4, r5, r6⟩, _, rl⟩ := box7 H2.out.rb
      go_wp2_with fail
      with_reducible refine (k3 _).mono ?_
      rintro en w3 ⟨rfl, hb⟩
      have H3 := Lib.hid (H2.out.later hb)
      clear hb k3 r0 r1 r2 r3 r4 r5 r6 rl H2
      obtain ⟨⟨r0, r1, r2, r3, r4, r5, r6⟩, _, rl⟩ := box7 H3.out.rb
      have hpz := Box.new w3 36 #[.string T2, .int .i64 I3]
      have HB4 := Lib.hid (show DaI W base p room L A c _ (w3.alloc (.cells #[.string T2, .int .i64 I3] 36)) from H3.out.later ((Below.refl _ _).alloc (Nat.le_refl _) _))
      have p0 := (hpz.cell 0).trans (show _ = some (Value.string T2) from rfl)
      have p1 := (hpz.cell 1).trans (show _ = some (Value.int .i64 I3) from rfl)
      go_wp2_with fail
      go_ret
      have hN := HN3.out (fun e => by have := (HNO.out e).2.2.1; exact q3 this)
      rw [hN.1, hN.2]
      exact HB4.out.gots HDL.out HBA.out _
    subst q3
    by_cases q4 : A3 = (key.size : Int)
    rotate_left
    · have q5 : (A3 == (key.size : Int)) = false := by rw [beq_eq_false_iff_ne]; exact q4
      obtain ⟨⟨r0, r1, r2, r3, r4, r5, r6⟩, _, rl⟩ := box7 H0.out.rb
      go_enter Try.func24, Try.ntmps24
      go_wp2_with fail
      with_reducible refine (k1 _).mono ?_
      rintro en w1 ⟨rfl, hb⟩
      have H1 := Lib.hid (H0.out.later hb)
      clear hb k1 r0 r1 r2 r3 r4 r5 r6 rl H0
      obtain ⟨⟨r0, r1, r2, r3, r4, r5, r6⟩, _, rl⟩ := box7 H1.out.rb
      go_wp2_with fail
      with_reducible refine (k2 _).mono ?_
      rintro en w2 ⟨rfl, hb⟩
      have H2 := Lib.hid (H1.out.later hb)
      clear hb k2 r0 r1 r2 r3 r4 r5 r6 rl H1
      obtain ⟨⟨r0, r1, r2, r3, r4, r5, r6⟩, _, rl⟩ := box7 H2.out.rb
      go_wp2_with fail
      with_reducible refine (k3 _).mono ?_
      rintro en w3 ⟨rfl, hb⟩
      have H3 := Lib.hid (H2.out.later hb)
      clear hb k3 r0 r1 r2 r3 r4 r5 r6 rl H2
      obtain ⟨⟨r0, r1, r2, r3, r4, r5, r6⟩, _, rl⟩ := box7 H3.out.rb
      have hpz := Box.new w3 36 #[.string T2, .int .i64 I3]
      have HB4 := Lib.hid (show DaI W base p room L A c _ (w3.alloc (.cells #[.string T2, .int .i64 I3] 36)) from H3.out.later ((Below.refl _ _).alloc (Nat.le_refl _) _))
      have p0 := (hpz.cell 0).trans (show _ = some (Value.string T2) from rfl)
      have p1 := (hpz.cell 1).trans (show _ = some (Value.int .i64 I3) from rfl)
      go_wp2_with fail
      go_ret
      have hN := HN3.out (fun e => by have := (HNO.out e).2.2.2.1; exact q4 this)
      rw [hN.1, hN.2]
      exact HB4.out.gots HDL.out HBA.out _
    subst q4
    have km := fun w => dkey_c ⟨T1, T2, I3⟩ (by dsimp only; omega) (by dsimp only; omega) w
    dsimp only at km
    cases qm : mayK ⟨T1, T2, I3⟩
    case false =>
      rw [qm] at km
      obtain ⟨⟨r0, r1, r2, r3, r4, r5, r6⟩, _, rl⟩ := box7 H0.out.rb
      go_enter Try.func24, Try.ntmps24
      go_wp2_with fail
      with_reducible refine (k1 _).mono ?_
      rintro en w1 ⟨rfl, hb⟩
      have H1 := Lib.hid (H0.out.later hb)
      clear hb k1 r0 r1 r2 r3 r4 r5 r6 rl H0
      obtain ⟨⟨r0, r1, r2, r3, r4, r5, r6⟩, _, rl⟩ := box7 H1.out.rb
      go_wp2_with fail
      with_reducible refine (k2 _).mono ?_
      rintro en w2 ⟨rfl, hb⟩
      have H2 := Lib.hid (H1.out.later hb)
      clear hb k2 r0 r1 r2 r3 r4 r5 r6 rl H1
      obtain ⟨⟨r0, r1, r2, r3, r4, r5, r6⟩, _, rl⟩ := box7 H2.out.rb
      go_wp2_with fail
      with_reducible refine (k3 _).mono ?_
      rintro en w3 ⟨rfl, hb⟩
      have H3 := Lib.hid (H2.out.later hb)
      clear hb k3 r0 r1 r2 r3 r4 r5 r6 rl H2
      obtain ⟨⟨r0, r1, r2, r3, r4, r5, r6⟩, _, rl⟩ := box7 H3.out.rb
      have hpz := Box.new w3 36 #[.string T2, .int .i64 I3]
      have HB4 := Lib.hid (show DaI W base p room L A c _ (w3.alloc (.cells #[.string T2, .int .i64 I3] 36)) from H3.out.later ((Below.refl _ _).alloc (Nat.le_refl _) _))
      have p0 := (hpz.cell 0).trans (show _ = some (Value.string T2) from rfl)
      have p1 := (hpz.cell 1).trans (show _ = some (Value.int .i64 I3) from rfl)
      go_wp2_with fail
      with_reducible refine (km _).mono ?_
      rintro en w5 ⟨rfl, hb⟩
      have H5 := Lib.hid (HB4.out.later hb)
      have p0' := (hpz.later hb).cell 0 |>.trans (show _ = some (Value.string T2) from rfl)
      have p1' := (hpz.later hb).cell 1 |>.trans (show _ = some (Value.int .i64 I3) from rfl)
      have hql : w3.heap.size < w5.heap.size := Nat.lt_of_lt_of_le hpz.lt hb.size
      generalize w3.heap.size = q at *
      clear hb km p0 p1 r0 r1 r2 r3 r4 r5 r6 rl HB4 hpz H3
      obtain ⟨⟨r0, r1, r2, r3, r4, r5, r6⟩, _, rl⟩ := box7 H5.out.rb
      go_wp2_with fail
      go_ret
      have hN := HN3.out (fun e => by have := (HNO.out e).2.2.2.2.1; rw [qm] at this; exact absurd this (by decide))
      rw [hN.1, hN.2]
      exact H5.out.gots HDL.out HBA.out _
    case true =>
      rw [qm] at km
      cases bare
      rotate_left
      · have q5 := 0
        obtain ⟨⟨r0, r1, r2, r3, r4, r5, r6⟩, _, rl⟩ := box7 H0.out.rb
        go_enter Try.func24, Try.ntmps24
        go_wp2_with fail
        with_reducible refine (k1 _).mono ?_
        rintro en w1 ⟨rfl, hb⟩
        have H1 := Lib.hid (H0.out.later hb)
        clear hb k1 r0 r1 r2 r3 r4 r5 r6 rl H0
        obtain ⟨⟨r0, r1, r2, r3, r4, r5, r6⟩, _, rl⟩ := box7 H1.out.rb
        go_wp2_with fail
        with_reducible refine (k2 _).mono ?_
        rintro en w2 ⟨rfl, hb⟩
        have H2 := Lib.hid (H1.out.later hb)
        clear hb k2 r0 r1 r2 r3 r4 r5 r6 rl H1
        obtain ⟨⟨r0, r1, r2, r3, r4, r5, r6⟩, _, rl⟩ := box7 H2.out.rb
        go_wp2_with fail
        with_reducible refine (k3 _).mono ?_
        rintro en w3 ⟨rfl, hb⟩
        have H3 := Lib.hid (H2.out.later hb)
        clear hb k3 r0 r1 r2 r3 r4 r5 r6 rl H2
        obtain ⟨⟨r0, r1, r2, r3, r4, r5, r6⟩, _, rl⟩ := box7 H3.out.rb
        have hpz := Box.new w3 36 #[.string T2, .int .i64 I3]
        have HB4 := Lib.hid (show DaI W base p room L A c _ (w3.alloc (.cells #[.string T2, .int .i64 I3] 36)) from H3.out.later ((Below.refl _ _).alloc (Nat.le_refl _) _))
        have p0 := (hpz.cell 0).trans (show _ = some (Value.string T2) from rfl)
        have p1 := (hpz.cell 1).trans (show _ = some (Value.int .i64 I3) from rfl)
        go_wp2_with fail
        with_reducible refine (km _).mono ?_
        rintro en w5 ⟨rfl, hb⟩
        have H5 := Lib.hid (HB4.out.later hb)
        have p0' := (hpz.later hb).cell 0 |>.trans (show _ = some (Value.string T2) from rfl)
        have p1' := (hpz.later hb).cell 1 |>.trans (show _ = some (Value.int .i64 I3) from rfl)
        have hql : w3.heap.size < w5.heap.size := Nat.lt_of_lt_of_le hpz.lt hb.size
        generalize w3.heap.size = q at *
        clear hb km p0 p1 r0 r1 r2 r3 r4 r5 r6 rl HB4 hpz H3
        obtain ⟨⟨r0, r1, r2, r3, r4, r5, r6⟩, _, rl⟩ := box7 H5.out.rb
        go_wp2_with fail
        go_ret
        have hN := HN3.out (fun e => by have := (HNO.out e).2.2.2.2.2.1; exact absurd this (by decide))
        rw [hN.1, hN.2]
        exact H5.out.gots HDL.out HBA.out _
      by_cases q5 : place = 0
      rotate_left
      · have q6 : (place == 0) = false := by rw [beq_eq_false_iff_ne]; exact q5
        obtain ⟨⟨r0, r1, r2, r3, r4, r5, r6⟩, _, rl⟩ := box7 H0.out.rb
        go_enter Try.func24, Try.ntmps24
        go_wp2_with fail
        with_reducible refine (k1 _).mono ?_
        rintro en w1 ⟨rfl, hb⟩
        have H1 := Lib.hid (H0.out.later hb)
        clear hb k1 r0 r1 r2 r3 r4 r5 r6 rl H0
        obtain ⟨⟨r0, r1, r2, r3, r4, r5, r6⟩, _, rl⟩ := box7 H1.out.rb
        go_wp2_with fail
        with_reducible refine (k2 _).mono ?_
        rintro en w2 ⟨rfl, hb⟩
        have H2 := Lib.hid (H1.out.later hb)
        clear hb k2 r0 r1 r2 r3 r4 r5 r6 rl H1
        obtain ⟨⟨r0, r1, r2, r3, r4, r5, r6⟩, _, rl⟩ := box7 H2.out.rb
        go_wp2_with fail
        with_reducible refine (k3 _).mono ?_
        rintro en w3 ⟨rfl, hb⟩
        have H3 := Lib.hid (H2.out.later hb)
        clear hb k3 r0 r1 r2 r3 r4 r5 r6 rl H2
        obtain ⟨⟨r0, r1, r2, r3, r4, r5, r6⟩, _, rl⟩ := box7 H3.out.rb
        have hpz := Box.new w3 36 #[.string T2, .int .i64 I3]
        have HB4 := Lib.hid (show DaI W base p room L A c _ (w3.alloc (.cells #[.string T2, .int .i64 I3] 36)) from H3.out.later ((Below.refl _ _).alloc (Nat.le_refl _) _))
        have p0 := (hpz.cell 0).trans (show _ = some (Value.string T2) from rfl)
        have p1 := (hpz.cell 1).trans (show _ = some (Value.int .i64 I3) from rfl)
        go_wp2_with fail
        with_reducible refine (km _).mono ?_
        rintro en w5 ⟨rfl, hb⟩
        have H5 := Lib.hid (HB4.out.later hb)
        have p0' := (hpz.later hb).cell 0 |>.trans (show _ = some (Value.string T2) from rfl)
        have p1' := (hpz.later hb).cell 1 |>.trans (show _ = some (Value.int .i64 I3) from rfl)
        have hql : w3.heap.size < w5.heap.size := Nat.lt_of_lt_of_le hpz.lt hb.size
        generalize w3.heap.size = q at *
        clear hb km p0 p1 r0 r1 r2 r3 r4 r5 r6 rl HB4 hpz H3
        obtain ⟨⟨r0, r1, r2, r3, r4, r5, r6⟩, _, rl⟩ := box7 H5.out.rb
        go_wp2_with fail
        go_ret
        have hN := HN3.out (fun e => by have := (HNO.out e).2.2.2.2.2.2.1; exact q5 this)
        rw [hN.1, hN.2]
        exact H5.out.gots HDL.out HBA.out _
      subst q5
      by_cases q6 : heads = []
      rotate_left
      · have q7 : (0 : Int) < (heads.length : Int) := by have := List.length_pos_iff.2 q6; omega
        obtain ⟨⟨r0, r1, r2, r3, r4, r5, r6⟩, _, rl⟩ := box7 H0.out.rb
        go_enter Try.func24, Try.ntmps24
        go_wp2_with fail
        with_reducible refine (k1 _).mono ?_
        rintro en w1 ⟨rfl, hb⟩
        have H1 := Lib.hid (H0.out.later hb)
        clear hb k1 r0 r1 r2 r3 r4 r5 r6 rl H0
        obtain ⟨⟨r0, r1, r2, r3, r4, r5, r6⟩, _, rl⟩ := box7 H1.out.rb
        go_wp2_with fail
        with_reducible refine (k2 _).mono ?_
        rintro en w2 ⟨rfl, hb⟩
        have H2 := Lib.hid (H1.out.later hb)
        clear hb k2 r0 r1 r2 r3 r4 r5 r6 rl H1
        obtain ⟨⟨r0, r1, r2, r3, r4, r5, r6⟩, _, rl⟩ := box7 H2.out.rb
        go_wp2_with fail
        with_reducible refine (k3 _).mono ?_
        rintro en w3 ⟨rfl, hb⟩
        have H3 := Lib.hid (H2.out.later hb)
        clear hb k3 r0 r1 r2 r3 r4 r5 r6 rl H2
        obtain ⟨⟨r0, r1, r2, r3, r4, r5, r6⟩, _, rl⟩ := box7 H3.out.rb
        have hpz := Box.new w3 36 #[.string T2, .int .i64 I3]
        have HB4 := Lib.hid (show DaI W base p room L A c _ (w3.alloc (.cells #[.string T2, .int .i64 I3] 36)) from H3.out.later ((Below.refl _ _).alloc (Nat.le_refl _) _))
        have p0 := (hpz.cell 0).trans (show _ = some (Value.string T2) from rfl)
        have p1 := (hpz.cell 1).trans (show _ = some (Value.int .i64 I3) from rfl)
        go_wp2_with fail
        with_reducible refine (km _).mono ?_
        rintro en w5 ⟨rfl, hb⟩
        have H5 := Lib.hid (HB4.out.later hb)
        have p0' := (hpz.later hb).cell 0 |>.trans (show _ = some (Value.string T2) from rfl)
        have p1' := (hpz.later hb).cell 1 |>.trans (show _ = some (Value.int .i64 I3) from rfl)
        have hql : w3.heap.size < w5.heap.size := Nat.lt_of_lt_of_le hpz.lt hb.size
        generalize w3.heap.size = q at *
        clear hb km p0 p1 r0 r1 r2 r3 r4 r5 r6 rl HB4 hpz H3
        obtain ⟨⟨r0, r1, r2, r3, r4, r5, r6⟩, _, rl⟩ := box7 H5.out.rb
        go_wp2_with fail
        go_ret
        have hN := HN3.out (fun e => by have := (HNO.out e).2.2.2.2.2.2.2.1; exact q6 this)
        rw [hN.1, hN.2]
        exact H5.out.gots HDL.out HBA.out _
      subst q6
      dsimp only [List.length_nil] at *
      by_cases q8 : time < 0
      · have q9 := 0
        obtain ⟨⟨r0, r1, r2, r3, r4, r5, r6⟩, _, rl⟩ := box7 H0.out.rb
        go_enter Try.func24, Try.ntmps24
        go_wp2_with fail
        with_reducible refine (k1 _).mono ?_
        rintro en w1 ⟨rfl, hb⟩
        have H1 := Lib.hid (H0.out.later hb)
        clear hb k1 r0 r1 r2 r3 r4 r5 r6 rl H0
        obtain ⟨⟨r0, r1, r2, r3, r4, r5, r6⟩, _, rl⟩ := box7 H1.out.rb
        go_wp2_with fail
        with_reducible refine (k2 _).mono ?_
        rintro en w2 ⟨rfl, hb⟩
        have H2 := Lib.hid (H1.out.later hb)
        clear hb k2 r0 r1 r2 r3 r4 r5 r6 rl H1
        obtain ⟨⟨r0, r1, r2, r3, r4, r5, r6⟩, _, rl⟩ := box7 H2.out.rb
        go_wp2_with fail
        with_reducible refine (k3 _).mono ?_
        rintro en w3 ⟨rfl, hb⟩
        have H3 := Lib.hid (H2.out.later hb)
        clear hb k3 r0 r1 r2 r3 r4 r5 r6 rl H2
        obtain ⟨⟨r0, r1, r2, r3, r4, r5, r6⟩, _, rl⟩ := box7 H3.out.rb
        have hpz := Box.new w3 36 #[.string T2, .int .i64 I3]
        have HB4 := Lib.hid (show DaI W base p room L A c _ (w3.alloc (.cells #[.string T2, .int .i64 I3] 36)) from H3.out.later ((Below.refl _ _).alloc (Nat.le_refl _) _))
        have p0 := (hpz.cell 0).trans (show _ = some (Value.string T2) from rfl)
        have p1 := (hpz.cell 1).trans (show _ = some (Value.int .i64 I3) from rfl)
        go_wp2_with fail
        with_reducible refine (km _).mono ?_
        rintro en w5 ⟨rfl, hb⟩
        have H5 := Lib.hid (HB4.out.later hb)
        have p0' := (hpz.later hb).cell 0 |>.trans (show _ = some (Value.string T2) from rfl)
        have p1' := (hpz.later hb).cell 1 |>.trans (show _ = some (Value.int .i64 I3) from rfl)
        have hql : w3.heap.size < w5.heap.size := Nat.lt_of_lt_of_le hpz.lt hb.size
        generalize w3.heap.size = q at *
        clear hb km p0 p1 r0 r1 r2 r3 r4 r5 r6 rl HB4 hpz H3
        obtain ⟨⟨r0, r1, r2, r3, r4, r5, r6⟩, _, rl⟩ := box7 H5.out.rb
        go_wp2_with fail
        go_ret
        have hN := HN3.out (fun e => by have := (HNO.out e).2.2.2.2.2.2.2.2.1; omega)
        rw [hN.1, hN.2]
        exact H5.out.gots HDL.out HBA.out _
      by_cases q9 : 1099511627776 < time
      · have q10 := 0
        obtain ⟨⟨r0, r1, r2, r3, r4, r5, r6⟩, _, rl⟩ := box7 H0.out.rb
        go_enter Try.func24, Try.ntmps24
        go_wp2_with fail
        with_reducible refine (k1 _).mono ?_
        rintro en w1 ⟨rfl, hb⟩
        have H1 := Lib.hid (H0.out.later hb)
        clear hb k1 r0 r1 r2 r3 r4 r5 r6 rl H0
        obtain ⟨⟨r0, r1, r2, r3, r4, r5, r6⟩, _, rl⟩ := box7 H1.out.rb
        go_wp2_with fail
        with_reducible refine (k2 _).mono ?_
        rintro en w2 ⟨rfl, hb⟩
        have H2 := Lib.hid (H1.out.later hb)
        clear hb k2 r0 r1 r2 r3 r4 r5 r6 rl H1
        obtain ⟨⟨r0, r1, r2, r3, r4, r5, r6⟩, _, rl⟩ := box7 H2.out.rb
        go_wp2_with fail
        with_reducible refine (k3 _).mono ?_
        rintro en w3 ⟨rfl, hb⟩
        have H3 := Lib.hid (H2.out.later hb)
        clear hb k3 r0 r1 r2 r3 r4 r5 r6 rl H2
        obtain ⟨⟨r0, r1, r2, r3, r4, r5, r6⟩, _, rl⟩ := box7 H3.out.rb
        have hpz := Box.new w3 36 #[.string T2, .int .i64 I3]
        have HB4 := Lib.hid (show DaI W base p room L A c _ (w3.alloc (.cells #[.string T2, .int .i64 I3] 36)) from H3.out.later ((Below.refl _ _).alloc (Nat.le_refl _) _))
        have p0 := (hpz.cell 0).trans (show _ = some (Value.string T2) from rfl)
        have p1 := (hpz.cell 1).trans (show _ = some (Value.int .i64 I3) from rfl)
        go_wp2_with fail
        with_reducible refine (km _).mono ?_
        rintro en w5 ⟨rfl, hb⟩
        have H5 := Lib.hid (HB4.out.later hb)
        have p0' := (hpz.later hb).cell 0 |>.trans (show _ = some (Value.string T2) from rfl)
        have p1' := (hpz.later hb).cell 1 |>.trans (show _ = some (Value.int .i64 I3) from rfl)
        have hql : w3.heap.size < w5.heap.size := Nat.lt_of_lt_of_le hpz.lt hb.size
        generalize w3.heap.size = q at *
        clear hb km p0 p1 r0 r1 r2 r3 r4 r5 r6 rl HB4 hpz H3
        obtain ⟨⟨r0, r1, r2, r3, r4, r5, r6⟩, _, rl⟩ := box7 H5.out.rb
        go_wp2_with fail
        go_ret
        have hN := HN3.out (fun e => by have := (HNO.out e).2.2.2.2.2.2.2.2.2.1; omega)
        rw [hN.1, hN.2]
        exact H5.out.gots HDL.out HBA.out _
      have hky : KyOk ⟨T1, T2, I3⟩ := mayK_ok qm
      have HKY := Lib.hid hky
      clear hky
      cases gone
      rotate_left
      · by_cases q10 : value.size = 0
        rotate_left
        · have v1 := list_ne q10
          have v2 := list_nn q10
          obtain ⟨⟨r0, r1, r2, r3, r4, r5, r6⟩, _, rl⟩ := box7 H0.out.rb
          go_enter Try.func24, Try.ntmps24
          go_wp2_with fail
          with_reducible refine (k1 _).mono ?_
          rintro en w1 ⟨rfl, hb⟩
          have H1 := Lib.hid (H0.out.later hb)
          clear hb k1 r0 r1 r2 r3 r4 r5 r6 rl H0
          obtain ⟨⟨r0, r1, r2, r3, r4, r5, r6⟩, _, rl⟩ := box7 H1.out.rb
          go_wp2_with fail
          with_reducible refine (k2 _).mono ?_
          rintro en w2 ⟨rfl, hb⟩
          have H2 := Lib.hid (H1.out.later hb)
          clear hb k2 r0 r1 r2 r3 r4 r5 r6 rl H1
          obtain ⟨⟨r0, r1, r2, r3, r4, r5, r6⟩, _, rl⟩ := box7 H2.out.rb
          go_wp2_with fail
          with_reducible refine (k3 _).mono ?_
          rintro en w3 ⟨rfl, hb⟩
          have H3 := Lib.hid (H2.out.later hb)
          clear hb k3 r0 r1 r2 r3 r4 r5 r6 rl H2
          obtain ⟨⟨r0, r1, r2, r3, r4, r5, r6⟩, _, rl⟩ := box7 H3.out.rb
          have hpz := Box.new w3 36 #[.string T2, .int .i64 I3]
          have HB4 := Lib.hid (show DaI W base p room L A c _ (w3.alloc (.cells #[.string T2, .int .i64 I3] 36)) from H3.out.later ((Below.refl _ _).alloc (Nat.le_refl _) _))
          have p0 := (hpz.cell 0).trans (show _ = some (Value.string T2) from rfl)
          have p1 := (hpz.cell 1).trans (show _ = some (Value.int .i64 I3) from rfl)
          go_wp2_with fail
          with_reducible refine (km _).mono ?_
          rintro en w5 ⟨rfl, hb⟩
          have H5 := Lib.hid (HB4.out.later hb)
          have p0' := (hpz.later hb).cell 0 |>.trans (show _ = some (Value.string T2) from rfl)
          have p1' := (hpz.later hb).cell 1 |>.trans (show _ = some (Value.int .i64 I3) from rfl)
          have hql : w3.heap.size < w5.heap.size := Nat.lt_of_lt_of_le hpz.lt hb.size
          generalize w3.heap.size = q at *
          clear hb km p0 p1 r0 r1 r2 r3 r4 r5 r6 rl HB4 hpz H3
          obtain ⟨⟨r0, r1, r2, r3, r4, r5, r6⟩, _, rl⟩ := box7 H5.out.rb
          go_wp2_with fail
          go_ret
          have hN := HN3.out (fun e => by have := (HNO.out e).2.2.2.2.2.2.2.2.2.2.1; exact q10 (by rw [this (by trivial)]; rfl))
          rw [hN.1, hN.2]
          exact H5.out.gots HDL.out HBA.out _
        have hve : value = ⟨#[]⟩ := by
          apply ByteArray.ext
          exact Array.eq_empty_of_size_eq_zero q10
        have v1 := str_nil q10
        have hok := HG.out rfl rfl rfl rfl qm rfl rfl rfl (by omega) (by omega) rfl hve
        have hN := Lib.hid (HC3.out hok.1 hok.2)
        clear hok hve q10
        rcases geD_find L ⟨T1, T2, I3⟩ with ⟨qf, _⟩ | ⟨i, e, qf, hLi, hek, _⟩
        · have HDG := Lib.hid (HDL.out.gone HOK.out HKY.out qf)
          obtain ⟨⟨r0, r1, r2, r3, r4, r5, r6⟩, _, rl⟩ := box7 H0.out.rb
          go_enter Try.func24, Try.ntmps24
          go_wp2_with fail
          with_reducible refine (k1 _).mono ?_
          rintro en w1 ⟨rfl, hb⟩
          have H1 := Lib.hid (H0.out.later hb)
          clear hb k1 r0 r1 r2 r3 r4 r5 r6 rl H0
          obtain ⟨⟨r0, r1, r2, r3, r4, r5, r6⟩, _, rl⟩ := box7 H1.out.rb
          go_wp2_with fail
          with_reducible refine (k2 _).mono ?_
          rintro en w2 ⟨rfl, hb⟩
          have H2 := Lib.hid (H1.out.later hb)
          clear hb k2 r0 r1 r2 r3 r4 r5 r6 rl H1
          obtain ⟨⟨r0, r1, r2, r3, r4, r5, r6⟩, _, rl⟩ := box7 H2.out.rb
          go_wp2_with fail
          with_reducible refine (k3 _).mono ?_
          rintro en w3 ⟨rfl, hb⟩
          have H3 := Lib.hid (H2.out.later hb)
          clear hb k3 r0 r1 r2 r3 r4 r5 r6 rl H2
          obtain ⟨⟨r0, r1, r2, r3, r4, r5, r6⟩, _, rl⟩ := box7 H3.out.rb
          have hpz := Box.new w3 36 #[.string T2, .int .i64 I3]
          have HB4 := Lib.hid (show DaI W base p room L A c _ (w3.alloc (.cells #[.string T2, .int .i64 I3] 36)) from H3.out.later ((Below.refl _ _).alloc (Nat.le_refl _) _))
          have p0 := (hpz.cell 0).trans (show _ = some (Value.string T2) from rfl)
          have p1 := (hpz.cell 1).trans (show _ = some (Value.int .i64 I3) from rfl)
          go_wp2_with fail
          with_reducible refine (km _).mono ?_
          rintro en w5 ⟨rfl, hb⟩
          have H5 := Lib.hid (HB4.out.later hb)
          have p0' := (hpz.later hb).cell 0 |>.trans (show _ = some (Value.string T2) from rfl)
          have p1' := (hpz.later hb).cell 1 |>.trans (show _ = some (Value.int .i64 I3) from rfl)
          have hql : w3.heap.size < w5.heap.size := Nat.lt_of_lt_of_le hpz.lt hb.size
          generalize w3.heap.size = q at *
          clear hb km p0 p1 r0 r1 r2 r3 r4 r5 r6 rl HB4 hpz H3
          obtain ⟨⟨r0, r1, r2, r3, r4, r5, r6⟩, _, rl⟩ := box7 H5.out.rb
          have cf1 := dfind_c base p c room L A ⟨T1, T2, I3⟩ w5 H5.out.is hl
          rw [qf] at cf1
          dsimp only at cf1
          go_wp2_with fail
          with_reducible refine cf1.mono ?_
          rintro en w6 ⟨rfl, hb⟩
          have H6 := Lib.hid (H5.out.later hb)
          clear hb cf1 r0 r1 r2 r3 r4 r5 r6 rl p0' p1' H5
          obtain ⟨⟨r0, r1, r2, r3, r4, r5, r6⟩, _, rl⟩ := box7 H6.out.rb
          go_wp2_with fail
          go_ret
          rw [hN.out.1, hN.out.2]
          exact H6.out.gots HDG.out HBA.out _
        · have hcd := HDL.out.cut HOK.out hLi
          rw [hek] at hcd
          have HCD := Lib.hid hcd
          have hil := (List.getElem?_eq_some_iff.1 hLi).1
          have hi0 : (0 : Int) ≤ (i : Int) := by omega
          clear hcd hLi hek
          obtain ⟨⟨r0, r1, r2, r3, r4, r5, r6⟩, _, rl⟩ := box7 H0.out.rb
          go_enter Try.func24, Try.ntmps24
          go_wp2_with fail
          with_reducible refine (k1 _).mono ?_
          rintro en w1 ⟨rfl, hb⟩
          have H1 := Lib.hid (H0.out.later hb)
          clear hb k1 r0 r1 r2 r3 r4 r5 r6 rl H0
          obtain ⟨⟨r0, r1, r2, r3, r4, r5, r6⟩, _, rl⟩ := box7 H1.out.rb
          go_wp2_with fail
          with_reducible refine (k2 _).mono ?_
          rintro en w2 ⟨rfl, hb⟩
          have H2 := Lib.hid (H1.out.later hb)
          clear hb k2 r0 r1 r2 r3 r4 r5 r6 rl H1
          obtain ⟨⟨r0, r1, r2, r3, r4, r5, r6⟩, _, rl⟩ := box7 H2.out.rb
          go_wp2_with fail
          with_reducible refine (k3 _).mono ?_
          rintro en w3 ⟨rfl, hb⟩
          have H3 := Lib.hid (H2.out.later hb)
          clear hb k3 r0 r1 r2 r3 r4 r5 r6 rl H2
          obtain ⟨⟨r0, r1, r2, r3, r4, r5, r6⟩, _, rl⟩ := box7 H3.out.rb
          have hpz := Box.new w3 36 #[.string T2, .int .i64 I3]
          have HB4 := Lib.hid (show DaI W base p room L A c _ (w3.alloc (.cells #[.string T2, .int .i64 I3] 36)) from H3.out.later ((Below.refl _ _).alloc (Nat.le_refl _) _))
          have p0 := (hpz.cell 0).trans (show _ = some (Value.string T2) from rfl)
          have p1 := (hpz.cell 1).trans (show _ = some (Value.int .i64 I3) from rfl)
          go_wp2_with fail
          with_reducible refine (km _).mono ?_
          rintro en w5 ⟨rfl, hb⟩
          have H5 := Lib.hid (HB4.out.later hb)
          have p0' := (hpz.later hb).cell 0 |>.trans (show _ = some (Value.string T2) from rfl)
          have p1' := (hpz.later hb).cell 1 |>.trans (show _ = some (Value.int .i64 I3) from rfl)
          have hql : w3.heap.size < w5.heap.size := Nat.lt_of_lt_of_le hpz.lt hb.size
          generalize w3.heap.size = q at *
          clear hb km p0 p1 r0 r1 r2 r3 r4 r5 r6 rl HB4 hpz H3
          obtain ⟨⟨r0, r1, r2, r3, r4, r5, r6⟩, _, rl⟩ := box7 H5.out.rb
          have cf1 := dfind_c base p c room L A ⟨T1, T2, I3⟩ w5 H5.out.is hl
          rw [qf] at cf1
          dsimp only at cf1
          go_wp2_with fail
          with_reducible refine cf1.mono ?_
          rintro en w6 ⟨rfl, hb⟩
          have H6 := Lib.hid (H5.out.later hb)
          clear hb cf1 r0 r1 r2 r3 r4 r5 r6 rl p0' p1' H5
          obtain ⟨⟨r0, r1, r2, r3, r4, r5, r6⟩, _, rl⟩ := box7 H6.out.rb
          have cc := dcut_c base p c room L A i w6 H6.out.is hl (by have := HBA.out; have := H6.out.below.size; omega) HP.out hil
          go_wp2_with fail
          with_reducible refine cc.mono ?_
          rintro en w7 hw7
          obtain rfl := hw7.1
          have HW := Lib.hid hw7
          clear hw7 cc
          go_wp2_with fail
          go_ret
          rw [hN.out.1, hN.out.2]
          exact H6.out.cut HBA.out HW.out HCD.out
      by_cases q10 : E4 = 0
      rotate_left
      · have q11 : (E4 == 0) = false := by rw [beq_eq_false_iff_ne]; exact q10
        obtain ⟨⟨r0, r1, r2, r3, r4, r5, r6⟩, _, rl⟩ := box7 H0.out.rb
        go_enter Try.func24, Try.ntmps24
        go_wp2_with fail
        with_reducible refine (k1 _).mono ?_
        rintro en w1 ⟨rfl, hb⟩
        have H1 := Lib.hid (H0.out.later hb)
        clear hb k1 r0 r1 r2 r3 r4 r5 r6 rl H0
        obtain ⟨⟨r0, r1, r2, r3, r4, r5, r6⟩, _, rl⟩ := box7 H1.out.rb
        go_wp2_with fail
        with_reducible refine (k2 _).mono ?_
        rintro en w2 ⟨rfl, hb⟩
        have H2 := Lib.hid (H1.out.later hb)
        clear hb k2 r0 r1 r2 r3 r4 r5 r6 rl H1
        obtain ⟨⟨r0, r1, r2, r3, r4, r5, r6⟩, _, rl⟩ := box7 H2.out.rb
        go_wp2_with fail
        with_reducible refine (k3 _).mono ?_
        rintro en w3 ⟨rfl, hb⟩
        have H3 := Lib.hid (H2.out.later hb)
        clear hb k3 r0 r1 r2 r3 r4 r5 r6 rl H2
        obtain ⟨⟨r0, r1, r2, r3, r4, r5, r6⟩, _, rl⟩ := box7 H3.out.rb
        have hpz := Box.new w3 36 #[.string T2, .int .i64 I3]
        have HB4 := Lib.hid (show DaI W base p room L A c _ (w3.alloc (.cells #[.string T2, .int .i64 I3] 36)) from H3.out.later ((Below.refl _ _).alloc (Nat.le_refl _) _))
        have p0 := (hpz.cell 0).trans (show _ = some (Value.string T2) from rfl)
        have p1 := (hpz.cell 1).trans (show _ = some (Value.int .i64 I3) from rfl)
        go_wp2_with fail
        with_reducible refine (km _).mono ?_
        rintro en w5 ⟨rfl, hb⟩
        have H5 := Lib.hid (HB4.out.later hb)
        have p0' := (hpz.later hb).cell 0 |>.trans (show _ = some (Value.string T2) from rfl)
        have p1' := (hpz.later hb).cell 1 |>.trans (show _ = some (Value.int .i64 I3) from rfl)
        have hql : w3.heap.size < w5.heap.size := Nat.lt_of_lt_of_le hpz.lt hb.size
        generalize w3.heap.size = q at *
        clear hb km p0 p1 r0 r1 r2 r3 r4 r5 r6 rl HB4 hpz H3
        obtain ⟨⟨r0, r1, r2, r3, r4, r5, r6⟩, _, rl⟩ := box7 H5.out.rb
        go_wp2_with fail
        with_reducible refine (k4 _).mono ?_
        rintro en w6 ⟨rfl, hb⟩
        have H6 := Lib.hid (H5.out.later hb)
        clear hb k4 r0 r1 r2 r3 r4 r5 r6 rl H5
        obtain ⟨⟨r0, r1, r2, r3, r4, r5, r6⟩, _, rl⟩ := box7 H6.out.rb
        go_wp2_with fail
        go_ret
        have hN := HN3.out (fun e => by have := (HNO.out e).2.2.2.2.2.2.2.2.2.2.2; exact q10 (this (by trivial)).1)
        rw [hN.1, hN.2]
        exact H6.out.gots HDL.out HBA.out _
      subst q10
      by_cases q11 : A4 = (value.size : Int)
      rotate_left
      · have q12 : (A4 == (value.size : Int)) = false := by rw [beq_eq_false_iff_ne]; exact q11
        obtain ⟨⟨r0, r1, r2, r3, r4, r5, r6⟩, _, rl⟩ := box7 H0.out.rb
        go_enter Try.func24, Try.ntmps24
        go_wp2_with fail
        with_reducible refine (k1 _).mono ?_
        rintro en w1 ⟨rfl, hb⟩
        have H1 := Lib.hid (H0.out.later hb)
        clear hb k1 r0 r1 r2 r3 r4 r5 r6 rl H0
        obtain ⟨⟨r0, r1, r2, r3, r4, r5, r6⟩, _, rl⟩ := box7 H1.out.rb
        go_wp2_with fail
        with_reducible refine (k2 _).mono ?_
        rintro en w2 ⟨rfl, hb⟩
        have H2 := Lib.hid (H1.out.later hb)
        clear hb k2 r0 r1 r2 r3 r4 r5 r6 rl H1
        obtain ⟨⟨r0, r1, r2, r3, r4, r5, r6⟩, _, rl⟩ := box7 H2.out.rb
        go_wp2_with fail
        with_reducible refine (k3 _).mono ?_
        rintro en w3 ⟨rfl, hb⟩
        have H3 := Lib.hid (H2.out.later hb)
        clear hb k3 r0 r1 r2 r3 r4 r5 r6 rl H2
        obtain ⟨⟨r0, r1, r2, r3, r4, r5, r6⟩, _, rl⟩ := box7 H3.out.rb
        have hpz := Box.new w3 36 #[.string T2, .int .i64 I3]
        have HB4 := Lib.hid (show DaI W base p room L A c _ (w3.alloc (.cells #[.string T2, .int .i64 I3] 36)) from H3.out.later ((Below.refl _ _).alloc (Nat.le_refl _) _))
        have p0 := (hpz.cell 0).trans (show _ = some (Value.string T2) from rfl)
        have p1 := (hpz.cell 1).trans (show _ = some (Value.int .i64 I3) from rfl)
        go_wp2_with fail
        with_reducible refine (km _).mono ?_
        rintro en w5 ⟨rfl, hb⟩
        have H5 := Lib.hid (HB4.out.later hb)
        have p0' := (hpz.later hb).cell 0 |>.trans (show _ = some (Value.string T2) from rfl)
        have p1' := (hpz.later hb).cell 1 |>.trans (show _ = some (Value.int .i64 I3) from rfl)
        have hql : w3.heap.size < w5.heap.size := Nat.lt_of_lt_of_le hpz.lt hb.size
        generalize w3.heap.size = q at *
        clear hb km p0 p1 r0 r1 r2 r3 r4 r5 r6 rl HB4 hpz H3
        obtain ⟨⟨r0, r1, r2, r3, r4, r5, r6⟩, _, rl⟩ := box7 H5.out.rb
        go_wp2_with fail
        with_reducible refine (k4 _).mono ?_
        rintro en w6 ⟨rfl, hb⟩
        have H6 := Lib.hid (H5.out.later hb)
        clear hb k4 r0 r1 r2 r3 r4 r5 r6 rl H5
        obtain ⟨⟨r0, r1, r2, r3, r4, r5, r6⟩, _, rl⟩ := box7 H6.out.rb
        go_wp2_with fail
        go_ret
        have hN := HN3.out (fun e => by have := (HNO.out e).2.2.2.2.2.2.2.2.2.2.2; exact q11 (this (by trivial)).2.1)
        rw [hN.1, hN.2]
        exact H6.out.gots HDL.out HBA.out _
      subst q11
      by_cases q12 : N4 < 0
      · have q13 := 0
        obtain ⟨⟨r0, r1, r2, r3, r4, r5, r6⟩, _, rl⟩ := box7 H0.out.rb
        go_enter Try.func24, Try.ntmps24
        go_wp2_with fail
        with_reducible refine (k1 _).mono ?_
        rintro en w1 ⟨rfl, hb⟩
        have H1 := Lib.hid (H0.out.later hb)
        clear hb k1 r0 r1 r2 r3 r4 r5 r6 rl H0
        obtain ⟨⟨r0, r1, r2, r3, r4, r5, r6⟩, _, rl⟩ := box7 H1.out.rb
        go_wp2_with fail
        with_reducible refine (k2 _).mono ?_
        rintro en w2 ⟨rfl, hb⟩
        have H2 := Lib.hid (H1.out.later hb)
        clear hb k2 r0 r1 r2 r3 r4 r5 r6 rl H1
        obtain ⟨⟨r0, r1, r2, r3, r4, r5, r6⟩, _, rl⟩ := box7 H2.out.rb
        go_wp2_with fail
        with_reducible refine (k3 _).mono ?_
        rintro en w3 ⟨rfl, hb⟩
        have H3 := Lib.hid (H2.out.later hb)
        clear hb k3 r0 r1 r2 r3 r4 r5 r6 rl H2
        obtain ⟨⟨r0, r1, r2, r3, r4, r5, r6⟩, _, rl⟩ := box7 H3.out.rb
        have hpz := Box.new w3 36 #[.string T2, .int .i64 I3]
        have HB4 := Lib.hid (show DaI W base p room L A c _ (w3.alloc (.cells #[.string T2, .int .i64 I3] 36)) from H3.out.later ((Below.refl _ _).alloc (Nat.le_refl _) _))
        have p0 := (hpz.cell 0).trans (show _ = some (Value.string T2) from rfl)
        have p1 := (hpz.cell 1).trans (show _ = some (Value.int .i64 I3) from rfl)
        go_wp2_with fail
        with_reducible refine (km _).mono ?_
        rintro en w5 ⟨rfl, hb⟩
        have H5 := Lib.hid (HB4.out.later hb)
        have p0' := (hpz.later hb).cell 0 |>.trans (show _ = some (Value.string T2) from rfl)
        have p1' := (hpz.later hb).cell 1 |>.trans (show _ = some (Value.int .i64 I3) from rfl)
        have hql : w3.heap.size < w5.heap.size := Nat.lt_of_lt_of_le hpz.lt hb.size
        generalize w3.heap.size = q at *
        clear hb km p0 p1 r0 r1 r2 r3 r4 r5 r6 rl HB4 hpz H3
        obtain ⟨⟨r0, r1, r2, r3, r4, r5, r6⟩, _, rl⟩ := box7 H5.out.rb
        go_wp2_with fail
        with_reducible refine (k4 _).mono ?_
        rintro en w6 ⟨rfl, hb⟩
        have H6 := Lib.hid (H5.out.later hb)
        clear hb k4 r0 r1 r2 r3 r4 r5 r6 rl H5
        obtain ⟨⟨r0, r1, r2, r3, r4, r5, r6⟩, _, rl⟩ := box7 H6.out.rb
        go_wp2_with fail
        go_ret
        have hN := HN3.out (fun e => by have := (HNO.out e).2.2.2.2.2.2.2.2.2.2.2; have := (this (by trivial)).2.2.1; omega)
        rw [hN.1, hN.2]
        exact H6.out.gots HDL.out HBA.out _
      by_cases q13 : 1099511627776 < N4
      · have q14 := 0
        obtain ⟨⟨r0, r1, r2, r3, r4, r5, r6⟩, _, rl⟩ := box7 H0.out.rb
        go_enter Try.func24, Try.ntmps24
        go_wp2_with fail
        with_reducible refine (k1 _).mono ?_
        rintro en w1 ⟨rfl, hb⟩
        have H1 := Lib.hid (H0.out.later hb)
        clear hb k1 r0 r1 r2 r3 r4 r5 r6 rl H0
        obtain ⟨⟨r0, r1, r2, r3, r4, r5, r6⟩, _, rl⟩ := box7 H1.out.rb
        go_wp2_with fail
        with_reducible refine (k2 _).mono ?_
        rintro en w2 ⟨rfl, hb⟩
        have H2 := Lib.hid (H1.out.later hb)
        clear hb k2 r0 r1 r2 r3 r4 r5 r6 rl H1
        obtain ⟨⟨r0, r1, r2, r3, r4, r5, r6⟩, _, rl⟩ := box7 H2.out.rb
        go_wp2_with fail
        with_reducible refine (k3 _).mono ?_
        rintro en w3 ⟨rfl, hb⟩
        have H3 := Lib.hid (H2.out.later hb)
        clear hb k3 r0 r1 r2 r3 r4 r5 r6 rl H2
        obtain ⟨⟨r0, r1, r2, r3, r4, r5, r6⟩, _, rl⟩ := box7 H3.out.rb
        have hpz := Box.new w3 36 #[.string T2, .int .i64 I3]
        have HB4 := Lib.hid (show DaI W base p room L A c _ (w3.alloc (.cells #[.string T2, .int .i64 I3] 36)) from H3.out.later ((Below.refl _ _).alloc (Nat.le_refl _) _))
        have p0 := (hpz.cell 0).trans (show _ = some (Value.string T2) from rfl)
        have p1 := (hpz.cell 1).trans (show _ = some (Value.int .i64 I3) from rfl)
        go_wp2_with fail
        with_reducible refine (km _).mono ?_
        rintro en w5 ⟨rfl, hb⟩
        have H5 := Lib.hid (HB4.out.later hb)
        have p0' := (hpz.later hb).cell 0 |>.trans (show _ = some (Value.string T2) from rfl)
        have p1' := (hpz.later hb).cell 1 |>.trans (show _ = some (Value.int .i64 I3) from rfl)
        have hql : w3.heap.size < w5.heap.size := Nat.lt_of_lt_of_le hpz.lt hb.size
        generalize w3.heap.size = q at *
        clear hb km p0 p1 r0 r1 r2 r3 r4 r5 r6 rl HB4 hpz H3
        obtain ⟨⟨r0, r1, r2, r3, r4, r5, r6⟩, _, rl⟩ := box7 H5.out.rb
        go_wp2_with fail
        with_reducible refine (k4 _).mono ?_
        rintro en w6 ⟨rfl, hb⟩
        have H6 := Lib.hid (H5.out.later hb)
        clear hb k4 r0 r1 r2 r3 r4 r5 r6 rl H5
        obtain ⟨⟨r0, r1, r2, r3, r4, r5, r6⟩, _, rl⟩ := box7 H6.out.rb
        go_wp2_with fail
        go_ret
        have hN := HN3.out (fun e => by have := (HNO.out e).2.2.2.2.2.2.2.2.2.2.2; have := (this (by trivial)).2.2.2; omega)
        rw [hN.1, hN.2]
        exact H6.out.gots HDL.out HBA.out _
      have hok := HV.out rfl rfl rfl rfl qm rfl rfl rfl (by omega) (by omega) rfl rfl rfl (by omega) (by omega)
      have hN := HP3.out hok.1 (by rw [hok.2]; omega)
      rw [hok.2] at hN
      have HN := Lib.hid hN
      clear hN hok
      obtain ⟨⟨r0, r1, r2, r3, r4, r5, r6⟩, _, rl⟩ := box7 H0.out.rb
      go_enter Try.func24, Try.ntmps24
      go_wp2_with fail
      with_reducible refine (k1 _).mono ?_
      rintro en w1 ⟨rfl, hb⟩
      have H1 := Lib.hid (H0.out.later hb)
      clear hb k1 r0 r1 r2 r3 r4 r5 r6 rl H0
      obtain ⟨⟨r0, r1, r2, r3, r4, r5, r6⟩, _, rl⟩ := box7 H1.out.rb
      go_wp2_with fail
      with_reducible refine (k2 _).mono ?_
      rintro en w2 ⟨rfl, hb⟩
      have H2 := Lib.hid (H1.out.later hb)
      clear hb k2 r0 r1 r2 r3 r4 r5 r6 rl H1
      obtain ⟨⟨r0, r1, r2, r3, r4, r5, r6⟩, _, rl⟩ := box7 H2.out.rb
      go_wp2_with fail
      with_reducible refine (k3 _).mono ?_
      rintro en w3 ⟨rfl, hb⟩
      have H3 := Lib.hid (H2.out.later hb)
      clear hb k3 r0 r1 r2 r3 r4 r5 r6 rl H2
      obtain ⟨⟨r0, r1, r2, r3, r4, r5, r6⟩, _, rl⟩ := box7 H3.out.rb
      have hpz := Box.new w3 36 #[.string T2, .int .i64 I3]
      have HB4 := Lib.hid (show DaI W base p room L A c _ (w3.alloc (.cells #[.string T2, .int .i64 I3] 36)) from H3.out.later ((Below.refl _ _).alloc (Nat.le_refl _) _))
      have p0 := (hpz.cell 0).trans (show _ = some (Value.string T2) from rfl)
      have p1 := (hpz.cell 1).trans (show _ = some (Value.int .i64 I3) from rfl)
      go_wp2_with fail
      with_reducible refine (km _).mono ?_
      rintro en w5 ⟨rfl, hb⟩
      have H5 := Lib.hid (HB4.out.later hb)
      have p0' := (hpz.later hb).cell 0 |>.trans (show _ = some (Value.string T2) from rfl)
      have p1' := (hpz.later hb).cell 1 |>.trans (show _ = some (Value.int .i64 I3) from rfl)
      have hql : w3.heap.size < w5.heap.size := Nat.lt_of_lt_of_le hpz.lt hb.size
      generalize w3.heap.size = q at *
      clear hb km p0 p1 r0 r1 r2 r3 r4 r5 r6 rl HB4 hpz H3
      obtain ⟨⟨r0, r1, r2, r3, r4, r5, r6⟩, _, rl⟩ := box7 H5.out.rb
      have HPZ := Lib.hid (show w5.cell? ⟨q, 0, none⟩ = some (Value.string T2) ∧ w5.cell? ⟨q, 1, none⟩ = some (Value.int .i64 I3) ∧ q < w5.heap.size from ⟨p0', p1', hql⟩)
      clear p0' p1' hql
      go_wp2_with fail
      with_reducible refine (k4 _).mono ?_
      rintro en w6 ⟨rfl, hb⟩
      have H6 := Lib.hid (H5.out.later hb)
      have p0 := (hb.cell (p := ⟨q, 0, none⟩) HPZ.out.2.2).trans HPZ.out.1
      have p1 := (hb.cell (p := ⟨q, 1, none⟩) HPZ.out.2.2).trans HPZ.out.2.1
      clear hb k4 r0 r1 r2 r3 r4 r5 r6 rl H5 HPZ
      have cc := dcommit_c base p c room L F A ⟨T1, T2, I3⟩ N4 w6 H6.out.is HDL.out HOK.out (by have := HBA.out; have := H6.out.below.size; omega) HP.out (by dsimp only; omega) (by dsimp only; omega)
      dsimp only at cc
      obtain ⟨⟨r0, r1, r2, r3, r4, r5, r6⟩, _, rl⟩ := box7 H6.out.rb
      go_wp2_with fail
      with_reducible refine cc.mono ?_
      rintro en w7 hw7
      obtain rfl := hw7.1
      have HW := Lib.hid hw7
      clear hw7 cc
      go_wp2_with fail
      go_ret
      rw [HN.out.1, HN.out.2]
      exact H6.out.then HBA.out HW.out
end Go.Proofs.Ytlkhfgkgngcakaa
