/- coord: merged texts. What each proves is told at its head. -/
import Derived.Test.YtlokhhjhckiloaaGreatQT
import Derived.Test.YtlokhhjhckiloaaGreatQU
import Derived.Test.YtlokhhjhckiloaaGreatQV
import Derived.Test.YtlokhhjhckiloaaGreatQ5
import Derived.BigQuiet
import Derived.Test.YtlokhhjhckiloaaGreatQ4
import Derived.Test.YtlokhhjhckiloaaGreatQB
import Derived.BigRegion
import Derived.Test.YtlokhhjhckiloaaGreatQN
/- coord: a step of both coordinators, whatever it is to do. No condition but that calls are not too many. -/
namespace Go.Proofs.YtlokhhjhckiloaaGreat
open Go.RowKit
set_option linter.unusedVariables false
theorem step17_c {W w : World} {p q t : Nat} {k ss rb : Int} {st sk : List UInt8 → Option GD} {n nk : Nat} {O OK : List Of.KE} (h : PA W p q t k ss rb st sk n nk O OK w) (hk : 0 ≤ k ∧ k ≤ 900000) (x : OC) (hx : OCk W x) :
    Calls Tryz.prog 10 #[.pointer (some ⟨p, 0, none⟩), .pointer (some ⟨q, 0, none⟩), .agg (ocL x).toArray] w (StP W w p q t k ss rb x st sk n nk O OK) := by
  by_cases h0 : x.do_ = 0
  · exact step0_c h hk x hx h0
  by_cases h1 : x.do_ = 1
  · exact step1_c h hk x hx h1
  by_cases h2 : x.do_ = 2
  · exact step2_c h hk x hx h2
  by_cases h3 : x.do_ = 3
  · exact step3_c h hk x hx h3
  by_cases h4 : x.do_ = 4
  · exact step4_c h hk x hx h4
  by_cases h5 : x.do_ = 5
  · exact step5_c h hk x hx h5
  by_cases h6 : x.do_ = 6
  · exact step6_c h hk x hx h6
  exact step7_c h hk x hx ⟨h0, h1, h2, h3, h4, h5, h6⟩
end Go.Proofs.YtlokhhjhckiloaaGreat
/- coord: the same texts, partitions, members, groups: told to be so, by contracts. No condition but that there are not too many. -/
namespace Go.Proofs.YtlokhhjhckiloaaGreat
open Go.RowKit
set_option linter.unusedVariables false
set_option maxHeartbeats 4000000 in
set_option maxRecDepth 100000 in
theorem sameS_c (N : List ByteArray) (A : Option Addr) (c : Nat) (B : Option Addr) (d : Nat) (W : World) (hA : StrIn W A N) (hB : StrIn W B N) (hl : N.length ≤ 100000) :
  Calls Tryz.prog 36 #[.slice A N.length c, .slice B N.length d] W (fun e w' => e = .returned (.bool true) ∧ ∃ n, w' = W.drewN n) := by
 have HA := Lib.hid hA
 have HB := Lib.hid hB
 clear hA hB
 go_enter Tryz.func36, Tryz.ntmps36
 go_wp2_with fail
 go_loopw [5] (fun j wr => ∃ k q : Nat, j = .int .i64 k ∧ k ≤ N.length ∧ wr = W.drewN q) (fun j _ => N.length - (intOf j).toNat)
 case atStart => exact ⟨0, 0, rfl, Nat.zero_le _, rfl⟩
 case round =>
  obtain ⟨k, q, rfl, hle, rfl⟩ := hrel
  by_cases hk : k < N.length
  ·
   obtain ⟨b, off, rfl, hlt, x0⟩ := HA.out.at_ hk
   obtain ⟨b2, off2, rfl, hlt2, y0⟩ := HB.out.at_ hk
   have hki : (k : Int) < (N.length : Int) := by omega
   have hk0 : (0 : Int) ≤ (k : Int) := by omega
   generalize N[k] = x at *
   go_wp2_with fail
   go_quiet (fail)
   all_goals
    go_wp2_with fail
    go_roundw
    case rel => exact ⟨k + 1, _, by go_num, hk, by first | exact World.drewN_drewN _ _ _ | rfl⟩
    case measure => simp [intOf]; omega
  ·
   have hki : ¬ (k : Int) < (N.length : Int) := by omega
   go_wp2_with fail
   go_ret
   exact ⟨rfl, q, rfl⟩
set_option maxHeartbeats 4000000 in
set_option maxRecDepth 100000 in
theorem sameP_c (N : List TX) (A : Option Addr) (c : Nat) (B : Option Addr) (d : Nat) (W : World) (hA : TpIn W A N) (hB : TpIn W B N) (hl : N.length ≤ 100000) :
  Calls Tryz.prog 28 #[.slice A N.length c, .slice B N.length d] W (fun e w' => e = .returned (.bool true) ∧ ∃ n, w' = W.drewN n) := by
 have HA := Lib.hid hA
 have HB := Lib.hid hB
 clear hA hB
 go_enter Tryz.func28, Tryz.ntmps28
 go_wp2
 go_loopw [5] (fun j wr => ∃ k q : Nat, j = .int .i64 k ∧ k ≤ N.length ∧ wr = W.drewN q) (fun j _ => N.length - (intOf j).toNat)
 case atStart => exact ⟨0, 0, rfl, Nat.zero_le _, rfl⟩
 case round =>
  obtain ⟨k, q, rfl, hle, rfl⟩ := hrel
  by_cases hk : k < N.length
  ·
   obtain ⟨b, off, rfl, hlt, x0, x1⟩ := HA.out.at_ hk
   obtain ⟨b2, off2, rfl, hlt2, y0, y1⟩ := HB.out.at_ hk
   have hki : (k : Int) < (N.length : Int) := by omega
   have hk0 : (0 : Int) ≤ (k : Int) := by omega
   generalize N[k] = x at *
   have hgd := fun (a b : Operand) w => part_guard .neq a b #[.string x.1, .int .i64 x.2] #[.string x.1, .int .i64 x.2] w
   have hneq := fun w => part_neq x.1 x.1 x.2 x.2 w
   rw [show (x.1.toList == x.1.toList && x.2 == x.2) = true by simp] at hneq
   simp only [Bool.not_true] at hneq
   go_wp2_with fail
   go_quiet (fail)
   all_goals
    go_wp2_with fail
    go_roundw
    case rel => exact ⟨k + 1, _, by go_num, hk, by first | exact World.drewN_drewN _ _ _ | rfl⟩
    case measure => simp [intOf]; omega
  ·
   have hki : ¬ (k : Int) < (N.length : Int) := by omega
   go_wp2_with fail
   go_ret
   exact ⟨rfl, q, rfl⟩
set_option maxHeartbeats 4000000 in
set_option maxRecDepth 100000 in
theorem sameOne_c (n u : Int) (j : Bool) (T : List ByteArray) (P : List TX) (A B C D : Option Addr) (a b c d : Nat) (W : World) (hA : StrIn W A T) (hB : StrIn W B T) (hC : TpIn W C P) (hD : TpIn W D P) (hT : T.length ≤ 100000) (hP : P.length ≤ 100000) :
  Calls Tryz.prog 65 #[.agg #[.int .i64 n, .slice A T.length a, .int .i64 u, .bool j, .slice C P.length c], .int .i64 n, .slice B T.length b, .int .i64 u, .bool j, .slice D P.length d] W (fun e w' => e = .returned (.bool true) ∧ Below W.heap.size W w') := by
 have hbx := Box.new W 113 #[.int .i64 n, .slice A T.length a, .int .i64 u, .bool j, .slice C P.length c]
 have hb : Below W.heap.size W (W.alloc (.cells #[.int .i64 n, .slice A T.length a, .int .i64 u, .bool j, .slice C P.length c] 113)) := (Below.refl _ _).alloc (Nat.le_refl _) _
 have cs := fun q => sameS_c T A a B b ((W.alloc (.cells #[.int .i64 n, .slice A T.length a, .int .i64 u, .bool j, .slice C P.length c] 113)).drewN q) (hA.below (below_drewN hb q)) (hB.below (below_drewN hb q)) hT
 have cp := fun q => sameP_c P C c D d ((W.alloc (.cells #[.int .i64 n, .slice A T.length a, .int .i64 u, .bool j, .slice C P.length c] 113)).drewN q) (hC.below (below_drewN hb q)) (hD.below (below_drewN hb q)) hP
 have cs0 := sameS_c T A a B b (W.alloc (.cells #[.int .i64 n, .slice A T.length a, .int .i64 u, .bool j, .slice C P.length c] 113)) (hA.below hb) (hB.below hb) hT
 have HB := Lib.hid hb
 have HX := Lib.hid hbx
 clear hA hB hC hD hb hbx
 go_enter Tryz.func65, Tryz.ntmps65
 go_wp2_with fail
 with_reducible refine cs0.mono ?_
 rintro e w2 ⟨rfl, q2, rfl⟩
 cases j
 all_goals
  go_wp2_with fail
  with_reducible refine (cp _).mono ?_
  rintro e w3 ⟨rfl, q3, rfl⟩
  go_wp2_with fail
  go_ret
  first
   | exact ⟨rfl, below_drewN (below_drewN HB.out _) _⟩
   | exact ⟨rfl, below_drewN HB.out _⟩
/-- A member's cells in a row. -/
theorem mv_at {w : World} {B t n : Nat} {v : Value} {R : List MV} (h : w.ownsRow B t 5 v R.length (mvR R)) {k : Nat} {x : MV} (hk : R[k]? = some x) : ∃ g c, v = .slice (some ⟨g, 0, none⟩) R.length c ∧ g < w.heap.size ∧ R.length ≤ c ∧ w.cell? ⟨g, k * 5, none⟩ = some (.int .i64 x.d.n) ∧ w.cell? ⟨g, k * 5 + 1, none⟩ = some x.tv ∧ w.cell? ⟨g, k * 5 + 2, none⟩ = some (.int .i64 x.d.u) ∧
  w.cell? ⟨g, k * 5 + 3, none⟩ = some (.bool x.d.j) ∧ w.cell? ⟨g, k * 5 + 4, none⟩ = some x.pv := by
 have hkl := (List.getElem?_eq_some_iff.1 hk).1
 obtain ⟨A, c, e⟩ := own_slice h
 subst e
 obtain ⟨g, e, hgl, _, hc, hx⟩ := own_in h (by omega)
 subst e
 have key : ∀ q y, (mvC x)[q]? = some y → (mvR R)[k * 5 + q]? = some y := by
  intro q y hq
  have hq5 : q < 5 := by
   have := (List.getElem?_eq_some_iff.1 hq).1
   simpa [mvC] using this
  clear h hx hc
  induction R generalizing k with
  | nil => cases hk
  | cons a l ih =>
   cases k with
   | zero =>
    have : a = x := by simpa using hk
    subst this
    show (mvC a ++ mvR l)[0 * 5 + q]? = some y
    rw [Nat.zero_mul, Nat.zero_add, List.getElem?_append_left (by simpa [mvC] using hq5)]
    exact hq
   | succ k =>
    have := ih (k := k) (by simpa using hk) (by simpa using hkl)
    show (mvC a ++ mvR l)[(k + 1) * 5 + q]? = some y
    rw [List.getElem?_append_right (by simp [mvC]; omega)]
    have h5 : (mvC a).length = 5 := rfl
    rw [h5, show (k + 1) * 5 + q - 5 = k * 5 + q by omega]
    exact this
 exact ⟨g, c, rfl, hgl, hc, hx _ _ (key 0 _ rfl), hx _ _ (key 1 _ rfl), hx _ _ (key 2 _ rfl), hx _ _ (key 3 _ rfl), hx _ _ (key 4 _ rfl)⟩
set_option maxHeartbeats 8000000 in
set_option maxRecDepth 100000 in
/-- A View against the document's group. -/
theorem sameV_c {W : World} {B B2 p : Nat} {v v' : Value} {R R' : List MV} {G : GD} (hr : W.ownsRow B 95 5 v R.length (mvR R)) (hm : ∀ x ∈ R, MvOk W B x) (ha : R.map MV.d = G.L) (hk : KIs W B2 p v' R' G) (hl : G.L.length ≤ 20) (hall : ∀ x ∈ G.L, TOk x.T ∧ POk x.P) :
  Calls Tryz.prog 38 #[.agg #[.int .i64 G.ph, .int .i64 G.gn, .int .i64 G.nx, .int .i64 G.un, v], .pointer (some ⟨p, 0, none⟩)] W (fun e w' => e = .returned (.bool true) ∧ Below W.heap.size W w') := by
 have hlen : R.length = R'.length := by
  have h1 := congrArg List.length ha
  have h2 := congrArg List.length hk.abs
  rw [List.length_map] at h1 h2
  omega
 have hlen2 : R'.length ≤ 20 := by
  have h2 := congrArg List.length hk.abs
  rw [List.length_map] at h2
  omega
 obtain ⟨A, c, ev⟩ := own_slice hr
 subst ev
 obtain ⟨A2, c2, ev2⟩ := own_slice hk.row
 subst ev2
 have hb : Below W.heap.size W (W.alloc (.cells #[.int .i64 G.ph, .int .i64 G.gn, .int .i64 G.nx, .int .i64 G.un, .slice A R.length c] 57)) := (Below.refl _ _).alloc (Nat.le_refl _) _
 have hbx := Box.new W 57 #[.int .i64 G.ph, .int .i64 G.gn, .int .i64 G.nx, .int .i64 G.un, .slice A R.length c]
 obtain ⟨⟨y0, y1, y2, y3, y4⟩, yl, _⟩ := vw5 hbx
 have HK := Lib.hid (hk.later hb)
 obtain ⟨d0, d1, d2, d3, d4, d5, d6, dl, _⟩ := kg7 HK.out.box
 have HB := Lib.hid hb
 have HX := Lib.hid hbx
 have HR := Lib.hid (And.intro (own_below hr hb) (fun x hx => (⟨own_below (hm x hx).tr hb, own_below (hm x hx).pr hb⟩ : MvOk _ B x)))
 have HA := Lib.hid (ha.trans hk.abs.symm)
 have HALL := Lib.hid hall
 have HABS := Lib.hid hk.abs
 have n1 : (G.ph != G.ph) = false := by simp
 have n2 : (G.gn != G.gn) = false := by simp
 have n3 : (G.nx != G.nx) = false := by simp
 have n4 : (G.un != G.un) = false := by simp
 have n5 : ((R.length : Int) != (R'.length : Int)) = false := by rw [hlen]; simp
 have HLEN := Lib.hid (And.intro hlen hlen2)
 clear hr hm ha hk hl hall hb hbx hlen
 go_enter Tryz.func38, Tryz.ntmps38
 go_wp2_with fail
 go_quiet (fail)
 generalize hW1 : (W.alloc (.cells #[.int .i64 G.ph, .int .i64 G.gn, .int .i64 G.nx, .int .i64 G.un, .slice A R.length c] 57)) = W1 at *
 have HW1 := Lib.hid hW1
 clear hW1 y0 y1 y2 y3 y4 yl d0 d1 d2 d3 d4 d5 d6 dl n1 n2 n3 n4
 go_wp2_with fail
 go_loopw [5] (fun i wr => ∃ j : Nat, i = .int .i64 j ∧ j ≤ R'.length ∧ Below W1.heap.size W1 wr) (fun i _ => R'.length - (intOf i).toNat)
 case atStart => exact ⟨0, rfl, Nat.zero_le _, below_drewN (Below.refl _ _) _⟩
 case round =>
  obtain ⟨j, rfl, hj, hbr⟩ := hrel
  have hK := HK.out.later hbr
  have hX := HX.out.later hbr
  obtain ⟨⟨y0, y1, y2, y3, y4⟩, yl, _⟩ := vw5 hX
  obtain ⟨d0, d1, d2, d3, d4, d5, d6, dl, _⟩ := kg7 hK.box
  have HBR := Lib.hid hbr
  by_cases hjl : j < R'.length
  ·
   obtain ⟨x', hx'⟩ : ∃ x, R'[j]? = some x := ⟨_, List.getElem?_eq_getElem hjl⟩
   obtain ⟨x, hx⟩ : ∃ x, R[j]? = some x := ⟨_, List.getElem?_eq_getElem (by rw [HLEN.out.1]; exact hjl)⟩
   have hxd : x.d = x'.d := by
    have := congrArg (fun l => l[j]?) HA.out
    simp only [List.getElem?_map, hx, hx', Option.map_some] at this
    injection this
   have hxin : x'.d ∈ G.L := by rw [← HABS.out]; exact List.mem_map_of_mem (List.mem_of_getElem? hx')
   obtain ⟨hTO, hPO⟩ := HALL.out _ hxin
   have hrr := own_below HR.out.1 hbr
   obtain ⟨g1, cc1, e1, hgl1, hc1, u0, u1, u2, u3, u4⟩ := mv_at (n := 0) hrr hx
   obtain ⟨g2, cc2, e2, hgl2, hc2, v0, v1, v2, v3, v4⟩ := mv_at (n := 0) hK.row hx'
   injection e1 with e1 _ f1
   injection e2 with e2 _ f2
   subst e1
   subst e2
   subst f1
   subst f2
   have hmx := HR.out.2 x (List.mem_of_getElem? hx)
   have hmx' := hK.all x' (List.mem_of_getElem? hx')
   obtain ⟨et1, st1⟩ := str_in (own_below hmx.tr hbr) rfl
   obtain ⟨et2, st2⟩ := str_in hmx'.tr rfl
   obtain ⟨pA1, pc1, ep1⟩ := own_slice hmx.pr
   obtain ⟨pA2, pc2, ep2⟩ := own_slice hmx'.pr
   have hp1 := own_below hmx.pr hbr
   have hp2 := hmx'.pr
   rw [ep1] at hp1 u4
   rw [ep2] at hp2 v4
   have sp1 := prt_in hp1
   have sp2 := prt_in hp2
   generalize slA x.tv = s1 at *
   generalize slA x'.tv = s2 at *
   rw [et1] at u1
   rw [et2] at v1
   rw [hxd] at u0 u1 u2 u3 u4 st1 sp1
   generalize x'.d = X at *
   have hA6 : Below wr.heap.size wr (wr.alloc (.cells #[.int .i64 X.n, .slice s1.1 X.T.length s1.2, .int .i64 X.u, .bool X.j, .slice pA1 X.P.length pc1] 95)) := (Below.refl _ _).alloc (Nat.le_refl _) _
   have hB6 := Box.new wr 95 #[.int .i64 X.n, .slice s1.1 X.T.length s1.2, .int .i64 X.u, .bool X.j, .slice pA1 X.P.length pc1]
   have hA6d : Below wr.heap.size wr (wr.alloc (.cells #[.int .i64 X.n, .slice s1.1 X.T.length s1.2, .int .i64 X.u, .bool X.j, .slice pA1 X.P.length pc1] 95)).drew := hA6.drew
   have cs1 := sameOne_c X.n X.u X.j X.T X.P s2.1 s1.1 pA2 pA1 s2.2 s1.2 pc2 pc1 _ (st2.below hA6d) (st1.below hA6d) (sp2.below hA6d) (sp1.below hA6d) hTO.1 hPO.1
   have HS0 : Hid (∀ w', Below wr.heap.size wr w' → Box w' wr.heap.size 95 #[.int .i64 X.n, .slice s1.1 X.T.length s1.2, .int .i64 X.u, .bool X.j, .slice pA1 X.P.length pc1] → w'.cell? ⟨p, 6, none⟩ = some (.slice (some ⟨g2, 0, none⟩) R'.length c2) ∧ w'.cell? ⟨g2, j * 5, none⟩ = some (.int .i64 X.n) ∧ w'.cell? ⟨g2, j * 5 + 1, none⟩ = some (.slice s2.1 X.T.length s2.2) ∧ w'.cell? ⟨g2, j * 5 + 2, none⟩ = some (.int .i64 X.u) ∧ w'.cell? ⟨g2, j * 5 + 3, none⟩ = some (.bool X.j) ∧ w'.cell? ⟨g2, j * 5 + 4, none⟩ = some (.slice pA2 X.P.length pc2) ∧ w'.cell? ⟨wr.heap.size, 0, none⟩ = some (.int .i64 X.n) ∧ w'.cell? ⟨wr.heap.size, 1, none⟩ = some (.slice s1.1 X.T.length s1.2) ∧ w'.cell? ⟨wr.heap.size, 2, none⟩ = some (.int .i64 X.u) ∧ w'.cell? ⟨wr.heap.size, 3, none⟩ = some (.bool X.j) ∧ w'.cell? ⟨wr.heap.size, 4, none⟩ = some (.slice pA1 X.P.length pc1)) := Lib.hid (fun w' hb hx => by
    obtain ⟨⟨q0, q1, q2, q3, q4⟩, _⟩ := vw5 hx
    exact ⟨(hb.cell (p := ⟨p, 6, none⟩) dl).trans d6, (hb.cell (p := ⟨g2, j * 5, none⟩) hgl2).trans v0, (hb.cell (p := ⟨g2, j * 5 + 1, none⟩) hgl2).trans v1, (hb.cell (p := ⟨g2, j * 5 + 2, none⟩) hgl2).trans v2, (hb.cell (p := ⟨g2, j * 5 + 3, none⟩) hgl2).trans v3, (hb.cell (p := ⟨g2, j * 5 + 4, none⟩) hgl2).trans v4, q0, q1, q2, q3, q4⟩)
   have hS1 := HS0.out _ hA6d hB6.drew
   have HS1 := Lib.hid hS1
   obtain ⟨t0, t1, t2, t3, t4, t5, t6, t7, t8, t9, t10⟩ := HS0.out _ hA6 hB6
   have HKP : Hid (∀ w', Below (wr.alloc (.cells #[.int .i64 X.n, .slice s1.1 X.T.length s1.2, .int .i64 X.u, .bool X.j, .slice pA1 X.P.length pc1] 95)).drew.heap.size (wr.alloc (.cells #[.int .i64 X.n, .slice s1.1 X.T.length s1.2, .int .i64 X.u, .bool X.j, .slice pA1 X.P.length pc1] 95)).drew w' → Below wr.heap.size wr w' ∧ (w'.cell? ⟨p, 6, none⟩ = some (.slice (some ⟨g2, 0, none⟩) R'.length c2) ∧ w'.cell? ⟨g2, j * 5, none⟩ = some (.int .i64 X.n) ∧ w'.cell? ⟨g2, j * 5 + 1, none⟩ = some (.slice s2.1 X.T.length s2.2) ∧ w'.cell? ⟨g2, j * 5 + 2, none⟩ = some (.int .i64 X.u) ∧ w'.cell? ⟨g2, j * 5 + 3, none⟩ = some (.bool X.j) ∧ w'.cell? ⟨g2, j * 5 + 4, none⟩ = some (.slice pA2 X.P.length pc2) ∧ w'.cell? ⟨wr.heap.size, 0, none⟩ = some (.int .i64 X.n) ∧ w'.cell? ⟨wr.heap.size, 1, none⟩ = some (.slice s1.1 X.T.length s1.2) ∧ w'.cell? ⟨wr.heap.size, 2, none⟩ = some (.int .i64 X.u) ∧ w'.cell? ⟨wr.heap.size, 3, none⟩ = some (.bool X.j) ∧ w'.cell? ⟨wr.heap.size, 4, none⟩ = some (.slice pA1 X.P.length pc1))) := Lib.hid (fun w' hb => ⟨hA6d.trans (hb.mono hA6d.size), HS0.out w' (hA6d.trans (hb.mono hA6d.size)) (hB6.drew.later hb)⟩)
   have hji : (j : Int) < (R'.length : Int) := by omega
   have hji1 : (j : Int) < (R.length : Int) := by rw [HLEN.out.1]; exact hji
   have hj0 : (0 : Int) ≤ (j : Int) := by omega
   clear hK hX hbr hx hx' hxd hxin hTO hPO hrr hmx hmx' et1 et2 st1 st2 ep1 ep2 hp1 hp2 sp1 sp2 hA6 hA6d hB6 hS1 hc1 hc2 HS0
   generalize hi5 : j * 5 = i5 at *
   go_wp2_with fail
   go_region_held3 (fun w' => w'.cell? ⟨p, 6, none⟩ = some (.slice (some ⟨g2, 0, none⟩) R'.length c2) ∧ w'.cell? ⟨g2, i5, none⟩ = some (.int .i64 X.n) ∧ w'.cell? ⟨g2, i5 + 1, none⟩ = some (.slice s2.1 X.T.length s2.2) ∧ w'.cell? ⟨g2, i5 + 2, none⟩ = some (.int .i64 X.u) ∧ w'.cell? ⟨g2, i5 + 3, none⟩ = some (.bool X.j) ∧ w'.cell? ⟨g2, i5 + 4, none⟩ = some (.slice pA2 X.P.length pc2) ∧ w'.cell? ⟨wr.heap.size, 0, none⟩ = some (.int .i64 X.n) ∧ w'.cell? ⟨wr.heap.size, 1, none⟩ = some (.slice s1.1 X.T.length s1.2) ∧ w'.cell? ⟨wr.heap.size, 2, none⟩ = some (.int .i64 X.u) ∧ w'.cell? ⟨wr.heap.size, 3, none⟩ = some (.bool X.j) ∧ w'.cell? ⟨wr.heap.size, 4, none⟩ = some (.slice pA1 X.P.length pc1))
    (first | exact HS1.out | exact (HKP.out _ (by assumption)).2)
    (first | ((with_reducible refine cs1.mono ?_); rintro e w6 ⟨rfl, hb6⟩))
   all_goals
    have HB6 := Lib.hid (HBR.out.trans ((HKP.out _ hb6).1.mono HBR.out.size))
    clear hb6 cs1
    go_wp2_with fail
    go_roundw
    case rel => exact ⟨j + 1, by go_num, hjl, HB6.out⟩
    case measure => simp [intOf]; omega
  ·
   have hjj : j = R'.length := by omega
   have hji : ¬ (j : Int) < (R'.length : Int) := by omega
   clear hK hX
   go_wp2_with fail
   go_ret
   exact ⟨rfl, HB.out.trans (HBR.out.mono HB.out.size)⟩
end Go.Proofs.YtlokhhjhckiloaaGreat
/- coord: the document's Leave, Beat, Tick of a group are the program's. Plain laws. No condition but what each group keeps. -/
namespace Go.Proofs.YtlokhhjhckiloaaGreat
open Go.RowKit
set_option linter.unusedVariables false
/-- What each group keeps: numbers apart and below the next one; a phase that fits. -/
structure GI (G : GD) : Prop where
  nd : (G.L.map MD.n).Nodup
  lt : ∀ x ∈ G.L, x.n < G.nx
  ph : (G.L = [] ∧ G.ph = 0) ∨ (G.L ≠ [] ∧ (G.ph = 1 ∨ G.ph = 2 ∨ G.ph = 3))
/-- Names and numbers alone. -/
def NI (G : GD) : Prop := (G.L.map MD.n).Nodup ∧ ∀ x ∈ G.L, x.n < G.nx
def PI (G : GD) : Prop := (G.L = [] ∧ G.ph = 0) ∨ (G.L ≠ [] ∧ (G.ph = 1 ∨ G.ph = 2 ∨ G.ph = 3))
section
variable {G : GD}
theorem NI.of_sub {G' : GD} (h : NI G) (hs : (G'.L.map MD.n).Sublist (G.L.map MD.n)) (hn : G'.nx = G.nx) : NI G' := by
  refine ⟨h.1.sublist hs, fun x hx => ?_⟩
  have h1 : x.n ∈ G.L.map MD.n := hs.subset (List.mem_map_of_mem hx)
  obtain ⟨y, hy, e⟩ := List.mem_map.1 h1
  rw [hn, ← e]
  exact h.2 y hy
theorem moreD_nx : (moreD G).nx = G.nx := by unfold moreD; split <;> rfl
theorem NI.drop (h : NI G) (f : MD → Bool) : NI (dropD f G) := h.of_sub (List.Sublist.map _ List.filter_sublist) rfl
theorem NI.begin (h : NI G) (now : Int) : NI (beginD now G) := h.of_sub (by
  unfold beginD
  rw [enterD_L]
  show ((G.L.map _).map MD.n).Sublist _
  rw [List.map_map]
  exact List.Sublist.refl _) (by unfold beginD; rw [enterD_nx])
theorem NI.close (h : NI G) (now : Int) : NI (closeD now G) := h.of_sub (by
  unfold closeD
  rw [enterD_L, moreD_L]
  exact List.Sublist.map _ List.filter_sublist) (by unfold closeD; rw [enterD_nx, moreD_nx]; rfl)
theorem NI.whole (h : NI G) (now : Int) : NI (wholeD now G) := by
  unfold wholeD
  split
  · exact h
  · exact h.close now
theorem NI.goOn (h : NI G) (now : Int) : NI (goOnD now G) := by
  unfold goOnD
  split
  · exact h.whole now
  · exact h.begin now
theorem set_names {L : List MD} {i : Nat} {x y : MD} (hx : L[i]? = some x) (hy : y.n = x.n) : (L.set i y).map MD.n = L.map MD.n := by
  rw [List.map_set, hy]
  refine List.ext_getElem? fun j => ?_
  rw [List.getElem?_set]
  split
  · rename_i e
    subst e
    split
    · rw [List.getElem?_map, hx]; rfl
    · rename_i hl
      rw [List.getElem?_eq_none (by simpa using hl)]
  · rfl
theorem NI.hear (h : NI G) (i : Nat) (now : Int) : NI (hearD i now G) := by
  unfold hearD
  cases hx : G.L[i]? with
  | none => exact h
  | some x => exact h.of_sub (by
      show ((G.L.set i _).map MD.n).Sublist _
      rw [set_names (y := { x with u := now + G.ss }) hx rfl]
      exact List.Sublist.refl _) rfl
theorem NI.joinAt (h : NI G) (i : Nat) (T : List ByteArray) (now : Int) : NI (joinAt i T now G) := by
  unfold Go.Proofs.YtlokhhjhckiloaaGreat.joinAt
  cases hx : G.L[i]? with
  | none => exact h
  | some x => exact h.of_sub (by
      show ((G.L.set i _).map MD.n).Sublist _
      rw [set_names (y := { x with T := T, j := true, u := now + G.ss }) hx rfl]
      exact List.Sublist.refl _) rfl
theorem NI.add (h : NI G) : NI (addD G) := by
  refine ⟨?_, fun x hx => ?_⟩
  · show ((G.L ++ [_]).map MD.n).Nodup
    rw [List.map_append]
    refine List.nodup_append.2 ⟨h.1, by simp, fun a ha b hb => ?_⟩
    obtain ⟨y, hy, rfl⟩ := List.mem_map.1 ha
    have := h.2 y hy
    have hb2 : b = G.nx := by simpa using hb
    omega
  · show x.n < G.nx + 1
    rcases List.mem_append.1 hx with hx | hx
    · have := h.2 x hx
      omega
    · have : x = ⟨G.nx, [], 0, false, []⟩ := by simpa using hx
      rw [this]
      show G.nx < G.nx + 1
      omega
theorem NI.deal (h : NI G) (T : List TX) (round : Bool) : NI (dealD T round G) := by
  unfold dealD
  split
  · exact h.of_sub (by
      show ((G.L.mapIdx _).map MD.n).Sublist _
      have : (G.L.mapIdx fun j x => ({ x with P := dealF G.L T round j } : MD)).map MD.n = G.L.map MD.n := by
        refine List.ext_getElem? fun j => ?_
        simp only [List.getElem?_map, List.getElem?_mapIdx, Option.map_map]
        rfl
      rw [this]
      exact List.Sublist.refl _) rfl
  · exact h
theorem PI.enter {ph now : Int} (hp : ph = 1 ∨ ph = 2 ∨ ph = 3) : PI (enterD ph now G) := by
  unfold enterD
  split
  · rename_i e; exact .inl ⟨e, rfl⟩
  · rename_i e; exact .inr ⟨e, hp⟩
theorem PI.begin (now : Int) : PI (beginD now G) := PI.enter (.inl rfl)
theorem PI.close (now : Int) : PI (closeD now G) := PI.enter (.inr (.inl rfl))
theorem PI.whole (h : G.ph = 1) (now : Int) : PI (wholeD now G) := by
  unfold wholeD
  split
  · rename_i e
    refine .inr ⟨fun e2 => ?_, .inl h⟩
    rw [e2] at e
    cases e
  · exact PI.close now
theorem PI.goOn (now : Int) : PI (goOnD now G) := by
  unfold goOnD
  split
  · rename_i e; exact PI.whole e now
  · exact PI.begin now
theorem PI.hear (h : PI G) (i : Nat) (now : Int) : PI (hearD i now G) := by
  unfold hearD
  cases hx : G.L[i]? with
  | none => exact h
  | some x =>
    rcases h with ⟨h1, _⟩ | ⟨h1, h2⟩
    · rw [h1] at hx; simp at hx
    · refine .inr ⟨fun e => h1 ?_, h2⟩
      have e2 : G.L.set i _ = [] := e
      simpa using e2
theorem GI.mk' (h1 : NI G) (h2 : PI G) : GI G := ⟨h1.1, h1.2, h2⟩
theorem GI.ni (h : GI G) : NI G := ⟨h.nd, h.lt⟩
theorem GI.new (ss rb : Int) : GI (newG ss rb) := ⟨List.nodup_nil, (fun x hx => by cases hx), .inl ⟨rfl, rfl⟩⟩
theorem GI.join (h : GI G) (m : Int) (T : List ByteArray) (now : Int) : GI (joinD m T now G) := by
  unfold joinD
  split
  case isFalse => exact h
  rename_i hE
  have h1 : NI (join1D m G) := by
    unfold join1D
    split
    · exact h.ni.add
    · exact h.ni
  have h2 : NI (join2D now (join1D m G)) := by
    unfold join2D
    split
    · exact h1
    · exact h1.begin now
  have hne : ∀ L, posM (joinM m G) L ≠ none → L ≠ [] := fun L hp e => by rw [e] at hp; exact hp rfl
  unfold join3D
  cases hp : posM (joinM m G) (join2D now (join1D m G)).L with
  | none =>
    exfalso
    rw [pos_join2] at hp
    unfold joinE at hE
    split at hE
    · unfold joinM join1D at hp
      split at hE
      · rename_i hm
        rw [if_pos hm, if_pos hm] at hp
        obtain ⟨i, hi⟩ := pos_add G
        rw [hi] at hp; cases hp
      · rename_i hm
        rw [if_neg hm, if_neg hm] at hp
        rw [hp] at hE
        cases hE
    · cases hE
  | some i =>
    refine GI.mk' ((h2.joinAt i T now).whole now) ?_
    obtain ⟨x, hx, _⟩ := pos_at hp
    have hL : (join2D now (join1D m G)).L ≠ [] := fun e => by rw [e] at hx; simp at hx
    have hph : (join2D now (join1D m G)).ph = 1 := by
      unfold join2D at hL ⊢
      split
      · rename_i e; exact e
      · rename_i e
        rw [if_neg e] at hL
        unfold beginD enterD at hL ⊢
        split
        · rename_i e2
          rw [if_pos e2] at hL
          exact absurd e2 hL
        · rfl
    refine PI.whole ?_ now
    unfold Go.Proofs.YtlokhhjhckiloaaGreat.joinAt
    rw [hx]
    exact hph
theorem PI.deal (h : PI G) (h2 : G.L ≠ []) (T : List TX) (round : Bool) : PI (dealD T round G) := by
  unfold dealD
  split
  · refine .inr ⟨fun e => h2 ?_, .inr (.inr rfl)⟩
    have e2 : G.L.mapIdx _ = [] := e
    simpa using e2
  · exact h
theorem GI.sync (h : GI G) (m gen : Int) (T : List TX) (round : Bool) (now : Int) : GI (syncD m gen T round now G) := by
  unfold syncD
  split
  case isFalse => exact h
  cases hp : posM m G.L with
  | none => exact h
  | some i =>
    obtain ⟨x, hx, _⟩ := pos_at hp
    have h1 := h.ni.hear i now
    have h2 := PI.hear h.ph i now
    have h3 : (hearD i now G).L ≠ [] := by
      unfold hearD
      rw [hx]
      intro e
      have e2 : G.L.set i _ = [] := e
      have e3 : G.L = [] := by simpa using e2
      rw [e3] at hx
      simp at hx
    show GI (sync2D m T round (hearD i now G))
    unfold sync2D
    first
      | (split
         · exact GI.mk' (h1.deal T round) (h2.deal h3 T round)
         · exact GI.mk' h1 h2)
      | (split
         · split
           · exact GI.mk' (h1.deal T round) (h2.deal h3 T round)
           · exact GI.mk' h1 h2
         · exact GI.mk' h1 h2)
theorem GI.beat (h : GI G) (m gen now : Int) : GI (beatD m gen now G) := by
  unfold beatD
  split
  case isFalse => exact h
  cases hp : posM m G.L with
  | none => exact h
  | some i => exact GI.mk' (h.ni.hear i now) (PI.hear h.ph i now)
theorem drop_all {f : MD → Bool} (h : ¬ (dropD f G).L.length < G.L.length) : dropD f G = G := by
  have h1 : G.L.filter (fun x => !f x) = G.L := by
    refine List.Sublist.eq_of_length List.filter_sublist ?_
    have h2 : (G.L.filter fun x => !f x).length ≤ G.L.length := List.length_filter_le _ _
    have h3 : ¬ (G.L.filter fun x => !f x).length < G.L.length := h
    omega
  unfold dropD
  rw [h1]
theorem GI.leave (h : GI G) (m now : Int) : GI (leaveD m now G) := by
  unfold leaveD
  split
  case isFalse => exact h
  by_cases hd : (dropD (fun x => decide (x.n = m)) G).L.length < G.L.length
  · rw [if_pos (decide_eq_true hd)]
    exact GI.mk' ((h.ni.drop _).goOn now) (PI.goOn now)
  · rw [if_neg (by rw [decide_eq_false hd]; decide), drop_all hd]
    exact h
theorem GI.tick1 (h : GI G) (now : Int) : GI (tick1D now G) := by
  unfold tick1D
  by_cases hd : (dropD (fun x => decide (x.u ≤ now)) G).L.length < G.L.length
  · rw [if_pos (decide_eq_true hd)]
    exact GI.mk' ((h.ni.drop _).goOn now) (PI.goOn now)
  · rw [if_neg (by rw [decide_eq_false hd]; decide), drop_all hd]
    exact h
theorem GI.tick2 (h : GI G) (now : Int) : GI (tick2D now G) := by
  unfold tick2D
  split
  · exact h
  · split
    · exact GI.mk' (h.ni.close now) (PI.close now)
    · split
      · exact GI.mk' ((h.ni.drop _).begin now) (PI.begin now)
      · exact h
theorem GI.tick (h : GI G) (now : Int) : GI (tickD now G) := by
  unfold tickD
  split
  · exact (h.tick1 now).tick2 now
  · exact h
theorem went_goOn (now : Int) (G : GD) : wentD now G = goOnD now G := by
  unfold wentD
  split
  · rename_i e
    unfold emptyD goOnD
    rw [if_pos e]
    split
    · unfold wholeD closeD
      rw [e]
      rw [if_neg (by decide)]
      have hd : dropD (fun x => !x.j) G = G := by unfold dropD; rw [e]; cases G; simp at e; subst e; rfl
      rw [hd]
      have hm : moreD G = G := by unfold moreD; rw [if_pos e]
      rw [hm]
      unfold enterD
      rw [if_pos e]
      cases G
      simp only at e
      subst e
      rfl
    · unfold beginD enterD
      rw [if_pos (by show G.L.map _ = []; rw [e]; rfl)]
      cases G
      simp only at e
      subst e
      rfl
  · unfold goOnD
    rfl
theorem erase_list {m : Int} : ∀ {L : List MD} {i : Nat}, (L.map MD.n).Nodup → posM m L = some i → L.take i ++ L.drop (i + 1) = L.filter fun x => !decide (x.n = m)
  | [], i, _, hp => by cases hp
  | a :: l, i, h, hp => by
    have hnd : a.n ∉ l.map MD.n ∧ (l.map MD.n).Nodup := by simpa using h
    unfold posM at hp
    rw [List.findIdx?_cons] at hp
    by_cases ha : a.n = m
    · rw [decide_eq_true ha] at hp
      simp only [if_true] at hp
      injection hp with hp
      subst hp
      show l = _
      rw [List.filter_cons_of_neg (by simp [ha])]
      refine (List.filter_eq_self.2 fun y hy => ?_).symm
      have : y.n ≠ m := fun e => hnd.1 (by rw [ha, ← e]; exact List.mem_map_of_mem hy)
      simp [this]
    · rw [decide_eq_false ha] at hp
      simp only [Bool.false_eq_true, if_false] at hp
      cases hq : l.findIdx? (fun x => decide (x.n = m)) with
      | none => rw [hq] at hp; cases hp
      | some j =>
        rw [hq] at hp
        have : i = j + 1 := by
          simp only [Option.map_some] at hp
          injection hp with hp
          omega
        subst this
        rw [List.filter_cons_of_pos (by simp [ha])]
        show a :: (l.take j ++ l.drop (j + 1)) = _
        rw [erase_list hnd.2 hq]
theorem erase_drop {m : Int} {i : Nat} (h : (G.L.map MD.n).Nodup) (hp : posM m G.L = some i) : eraseD i G = dropD (fun x => decide (x.n = m)) G := by
  unfold eraseD dropD
  rw [erase_list h hp]
theorem pos_drop {m : Int} : (posM m G.L).isSome = decide ((dropD (fun x => decide (x.n = m)) G).L.length < G.L.length) := by
  rw [Bool.eq_iff_iff]
  rw [decide_eq_true_eq]
  show (G.L.findIdx? _).isSome = true ↔ (G.L.filter _).length < _
  rw [List.findIdx?_isSome, List.length_filter_lt_length_iff_exists]
  simp
theorem leave_eq (h : GI G) (m now : Int) : kleaveD m now G = leaveD m now G ∧ kleaveE m now G = leaveE m now G := by
  have hp := pos_drop (G := G) (m := m)
  unfold kleaveD leaveD kleaveE leaveE
  split
  · rw [← hp]
    cases hq : posM m G.L with
    | none =>
      rw [hq] at hp
      refine ⟨?_, rfl⟩
      show G = dropD _ G
      rw [drop_all]
      exact of_decide_eq_false hp.symm
    | some i => exact ⟨by show wentD now (eraseD i G) = goOnD now _; rw [erase_drop h.nd hq, went_goOn], rfl⟩
  · exact ⟨rfl, rfl⟩
theorem beat_eq (h : GI G) (m gen now : Int) : kbeatE m gen now G = beatE m gen now G := by
  unfold kbeatE beatE
  split
  · split
    · rename_i hn
      have hL : G.L ≠ [] := fun e => by
        unfold nameE at hn
        rw [e] at hn
        cases hn
      rcases h.ph with ⟨e, _⟩ | ⟨_, e | e | e⟩
      · exact absurd e hL
      · rw [e]; rfl
      · rw [e]; rfl
      · rw [e]; rfl
    · rfl
  · rfl
theorem tick_eq (h : GI G) (now : Int) : ktickD now G = tickD now G := by
  have h1 : ktick1D now G = tick1D now G := by
    unfold ktick1D tick1D
    rw [ktL_zero, went_goOn]
    show (if (dropD (fun x => decide (x.u ≤ now)) G).L.length < G.L.length then goOnD now (dropD (fun x => decide (x.u ≤ now)) G) else dropD (fun x => decide (x.u ≤ now)) G) = _
    simp only [decide_eq_true_eq]
  unfold ktickD tickD
  rw [h1]
  split
  · have hg := h.tick1 now
    generalize tick1D now G = G1 at *
    unfold ktick2D tick2D
    by_cases hu : now < G1.un
    · rw [if_pos hu, if_neg (by omega), if_neg (by omega)]
    · rw [if_neg hu]
      have hu2 : G1.un ≤ now := by omega
      by_cases h1 : G1.ph = 1
      · rw [if_pos ⟨h1, hu2⟩, if_pos h1]
      · rw [if_neg (fun e => h1 e.1), if_neg h1]
        by_cases h2 : G1.ph = 2
        · rw [if_pos ⟨h2, hu2⟩, if_pos h2]
          congr 1
          cases hL : G1.L with
          | nil =>
            unfold eraseD dropD
            rw [hL]
            rfl
          | cons a l =>
            refine erase_drop hg.nd ?_
            unfold leadM posM
            rw [hL, List.findIdx?_cons]
            simp
        · rw [if_neg (fun e => h2 e.1), if_neg h2]
  · rfl
end
end Go.Proofs.YtlokhhjhckiloaaGreat
/- the document's group: Sync, by a contract that tells the partitions. No condition but that numbers are small. -/
namespace Go.Proofs.YtlokhhjhckiloaaGreat
open Go.RowKit
set_option linter.unusedVariables false
/-- What the document's Sync gives, its partitions told. -/
def KGot2 (B p : Nat) (v : Value) (W : World) (G' : GD) (L0 : List MD) (m : Int) (err : Int) (e : Ending) (w' : World) : Prop :=
 ∃ A c P, e = .returned (.tuple #[.slice A P.length c, .int .i64 err]) ∧ w'.ownsRow B 34 2 (.slice A P.length c) P.length (prtC P) ∧ (err = 0 → ∃ i, posM m L0 = some i ∧ P = partAt i G') ∧ (err ≠ 0 → P = []) ∧ ∃ v' R', KIs w' B p v' R' G' ∧ Off (GrS p v) W w' ∧ ∀ k, v'.ownBlock = some k → v.ownBlock = some k ∨ W.heap.size ≤ k
theorem KGot2.no {B p : Nat} {v v' : Value} {W w' : World} {R' : List MV} {G' : GD} {L0 : List MD} {m err : Int} (h : KIs w' B p v' R' G') (ho : Off (GrS p v) W w') (hv : ∀ k, v'.ownBlock = some k → v.ownBlock = some k ∨ W.heap.size ≤ k) (hne : err ≠ 0) : KGot2 B p v W G' L0 m err (.returned (.tuple #[.slice none 0 0, .int .i64 err])) w' :=
 ⟨none, 0, [], rfl, World.ownsRow_nil _ _ _ _, (fun h => absurd h hne), (fun _ => rfl), v', R', h, ho, hv⟩
set_option maxHeartbeats 16000000 in
set_option maxRecDepth 100000 in
theorem ksync2_c (B p : Nat) (v : Value) (R : List MV) (G : GD) (m gen now : Int) (T : List TX) (A2 : Option Addr) (c2 : Nat) (round : Bool) (W : World) (h : KIs W B p v R G) (hG : GBd G) (hl : G.L.length ≤ 20) (hBW : B ≤ W.heap.size) (hTL : ∀ x ∈ G.L, x.T.length ≤ 100000)
  (hT : TpIn W A2 T) (hTl : T.length ≤ 140737488351232) (hTz : ∀ t ∈ T, t.1.size ≤ 281474976710656) (hTS : 0 < T.length → ∀ a, A2 = some a → ¬ GrS p v a.block) :
  Calls Tryz.prog 56 #[.pointer (some ⟨p, 0, none⟩), .int .i64 m, .int .i64 gen, .slice A2 T.length c2, .bool round, .int .i64 now] W (KGot2 B p v W (syncD m gen T round now G) G.L m (syncE m gen T now G)) := by
 have ct := fun w => ktime_c now w
 have ck := kknows_c B p v R G m gen W h hG.len
 have HI := Lib.hid h
 have HT := Lib.hid hT
 have HTS := Lib.hid hTS
 cases ht : timeB now with
 | false =>
  rw [ht] at ct
  have hE : syncE m gen T now G = 1 := by unfold syncE; rw [ht]; rfl
  have hD : syncD m gen T round now G = G := by unfold syncD; rw [ht]; rfl
  rw [hE, hD]
  clear h hG ht hE hD hTL hTz hT hTS ck
  go_enter Tryz.func56, Tryz.ntmps56
  go_wp2_with fail
  with_reducible refine (ct _).mono ?_
  rintro e w1 ⟨rfl, hw9⟩
  have hw8 := hw9.symm
  subst hw8
  clear hw9
  go_wp2_with fail
  go_ret2
  exact KGot2.no HI.out (Off.refl _ _) (fun k hk => .inl hk) (by first | decide | exact (fun e => by rw [e] at hK'; cases hK'))
 | true =>
  rw [ht] at ct
  have hn := time_bd ht
  by_cases hK : knowE m gen G = 0
  ·
   rw [hK] at ck
   obtain ⟨k, hk⟩ := name_pos (know_name hK)
   have hkR : k < R.length := by
    obtain ⟨x, hx, _⟩ := pos_at hk
    rw [h.len]; exact (List.getElem?_eq_some_iff.1 hx).1
   obtain ⟨g, c, ev, -⟩ := h.at_ (List.getElem?_eq_getElem hkR)
   have cf := fun w (hb : Below W.heap.size W w) => kfind_c B p v R G m w (h.later hb) hG.len
   rw [posI_some hk] at cf
   subst ev
   have hE : syncE m gen T now G = sync2E m T (hearD k now G) := by unfold syncE; rw [ht, hK, hk]; rfl
   have hD : syncD m gen T round now G = sync2D m T round (hearD k now G) := by unfold syncD; rw [if_pos ⟨ht, hK⟩, hk]
   rw [hE, hD]
   obtain ⟨G1, hG1⟩ : ∃ G1, hearD k now G = G1 := ⟨_, rfl⟩
   have hl1 : G1.L.length ≤ 20 := by rw [← hG1, hearD_len]; exact hl
   have hTL1 : ∀ x ∈ G1.L, x.T.length ≤ 100000 := by rw [← hG1]; exact hearD_T (C := fun T => T.length ≤ 100000) hTL
   have hkp : posM m G1.L = some k := by rw [← hG1, posM_n, hearD_n, ← posM_n]; exact hk
   rw [hG1]
   have hss := hG.ss
   have hk0 : (0 : Int) ≤ (k : Int) := by omega
   have hk1 : (k : Int) < (R.length : Int) := by omega
   have HH : Hid (∀ w, KIs w B p (.slice (some ⟨g, 0, none⟩) R.length c) R G → ∃ R', R'.length = R.length ∧ KIs (w.setCell ⟨g, k * 5 + 2, none⟩ (.int .i64 (now + G.ss))) B p (.slice (some ⟨g, 0, none⟩) R.length c) R' G1 ∧ Off (GrS p (.slice (some ⟨g, 0, none⟩) R.length c)) w (w.setCell ⟨g, k * 5 + 2, none⟩ (.int .i64 (now + G.ss)))) := Lib.hid (fun w hw => by rw [← hG1]; exact hw.hear hkR now)
   obtain ⟨b0, b1, b2, b3, b4, b5, b6, bl, _⟩ := kg7 h.box
   have HS : Hid (∀ w, KIs w B p (.slice (some ⟨g, 0, none⟩) R.length c) R G → ∃ u, w.cell? ⟨p, 0, none⟩ = some (.int .i64 G.ss) ∧ w.cell? ⟨p, 6, none⟩ = some (.slice (some ⟨g, 0, none⟩) R.length c) ∧ w.cell? ⟨g, k * 5 + 2, none⟩ = some (.int .i64 u) ∧ w.frozen? ⟨g, k * 5 + 2, none⟩ = false ∧ p < w.heap.size ∧ g < w.heap.size) := Lib.hid (fun w hw => hw.hr hkR)
   have HKP := Lib.hid hkp
   have HKG := Lib.hid hk
   clear h hG ht hE hD hTL hT hTS hK hk hG1 hl hkp
   by_cases hph : G1.ph = 2
   ·
    have hph' : (G1.ph == 2) = true := by rw [hph]; rfl
    by_cases hkk : k = 0
    ·
     have hm : m = leadM G1 := lead_zero rfl (by rw [← hkk]; exact HKP.out)
     have e2D : sync2D m T round G1 = dealD T round G1 := by unfold sync2D; rw [if_pos hph, if_pos hm]
     have e2E : sync2E m T G1 = dealE G1.L T := by unfold sync2E; rw [if_pos hph, if_pos hm]
     have hkneg : ¬ (0 : Int) < (k : Int) := by omega
     rw [e2D, e2E]
     clear hph e2D e2E hkk hm
     cases round with
     | false =>
      go_enter Tryz.func56, Tryz.ntmps56
      go_wp2_with fail
      with_reducible refine (ct _).mono ?_
      rintro e w1 ⟨rfl, hw9⟩
      have hw8 := hw9.symm
      subst hw8
      clear hw9
      go_wp2_with fail
      with_reducible refine ck.mono ?_
      rintro e w2 ⟨rfl, hb2⟩
      have HB2 := Lib.hid hb2
      have cf2 := cf _ hb2
      clear hb2 cf ct ck
      go_wp2_with fail
      with_reducible refine cf2.mono ?_
      rintro e w3 ⟨rfl, hb3⟩
      have HB3 := Lib.hid (HB2.out.trans (hb3.mono HB2.out.size))
      have hbd : Below w3.heap.size w3 w3.drew := (Below.refl _ _).drew
      have I3d := HI.out.later (HB3.out.trans (hbd.mono HB3.out.size))
      obtain ⟨u3, s1, s2, s3, s4, s5, s6⟩ := HS.out _ I3d
      obtain ⟨R4, hR4, h4a, o4a⟩ := HH.out _ (HI.out.later HB3.out)
      have hbd8 : Below (w3.setCell ⟨g, k * 5 + 2, none⟩ (.int .i64 (now + G.ss))).heap.size (w3.setCell ⟨g, k * 5 + 2, none⟩ (.int .i64 (now + G.ss))) (w3.setCell ⟨g, k * 5 + 2, none⟩ (.int .i64 (now + G.ss))).drew := (Below.refl _ _).drew
      have h4 := h4a.later hbd8
      have H4 := Lib.hid h4
      have O4 := Lib.hid (((Off.of_below (GrS p (.slice (some ⟨g, 0, none⟩) R.length c)) HB3.out).trans o4a (fun _ _ e => e)).later hbd8)
      obtain ⟨z0, z1, z2, z3, z4, z5, z6, zl, _⟩ := kg7 h4.box
      have HR4 := Lib.hid hR4
      have hw : IntKind.i64.wrap (now + G.ss) = now + G.ss := by rw [IntKind.wrap_i64]; omega
      clear hb3 h4a o4a hR4 cf2 I3d hbd hbd8
      have hlenR : R4.length = G1.L.length := h4.len
      have HST : Hid (stripS (subsV R4) = subsD G1.L) := Lib.hid (subs_strip h4.abs)
      have hT4 : TpIn _ A2 T := (fun hp => by
       obtain ⟨b, off, e, hlt, hc⟩ := HT.out hp
       exact ⟨b, off, e, Nat.lt_of_lt_of_le hlt O4.out.size, fun j x hx => ⟨(O4.out.cell (p := ⟨b, off + j * 2, none⟩) hlt (HTS.out hp ⟨b, off, none⟩ e)).trans (hc j x hx).1, (O4.out.cell (p := ⟨b, off + j * 2 + 1, none⟩) hlt (HTS.out hp ⟨b, off, none⟩ e)).trans (hc j x hx).2⟩⟩ : TpIn (w3.setCell ⟨g, k * 5 + 2, none⟩ (.int .i64 (now + G.ss))).drew A2 T)
      have HT4 := Lib.hid hT4
      have hlR : R4.length ≤ 20 := by omega
      have hSl : (subsV R4).length ≤ 140737488351232 := by rw [subsV_len]; omega
      have hSz : ∀ x ∈ subsV R4, x.2.1.length ≤ 140737488351232 := fun x hx => by
       unfold subsV at hx
       obtain ⟨y, hy, rfl⟩ := List.mem_map.1 hx
       have := hTL1 y.d (by rw [← h4.abs]; exact List.mem_map_of_mem hy)
       show y.d.T.length ≤ _
       omega
      have h4x := h4
      clear hT4 h4 hlenR
      generalize hi5 : k * 5 = i5 at *
      go_wp2_with fail
      go_region
      all_goals
       clear s1 s2 s3 s4 s5 s6
       generalize (w3.setCell ⟨g, i5 + 2, none⟩ (.int .i64 (now + G.ss))).drew = W4 at *
       have HR0 := Lib.hid (RowS.start W4 142 2)
       clear h4x
       rw [← HR4.out] at H4 z6
       go_wp2_with fail
       have hdk : decide (0 < k) = false := decide_eq_false (by omega)
       rw [hdk]
       clear hdk hkneg
       go_loopw [16, 17] (fun a j wr => ∃ (k : Nat) (B1 : Option Addr) (e : Nat), j = .int .i64 k ∧ k ≤ R4.length ∧ a = .slice B1 k e ∧ RowS W4 142 2 (.slice B1 k e) k (subC (R4.take k)) wr) (fun _ j _ => R4.length - (intOf j).toNat)
       case atStart => exact ⟨0, none, 0, rfl, Nat.zero_le _, rfl, HR0.out⟩
       case round =>
        obtain ⟨q, B1, e0, rfl, hql, rfl, hP⟩ := hrel
        have HP := Lib.hid hP
        clear hP HR0
        by_cases hq : q < R4.length
        ·
         obtain ⟨x, hx⟩ : ∃ x, R4[q]? = some x := ⟨_, List.getElem?_eq_getElem hq⟩
         have hI := H4.out.later (HP.out.bel.trans (((Below.refl _ wr).drew).mono HP.out.bel.size))
         obtain ⟨g3, c3, e3, hgl, _, hgp, q0, q1, -⟩ := hI.at_ hx
         injection e3 with e3 en ec
         clear en
         injection e3 with e3
         injection e3 with e3
         subst e3
         obtain ⟨y0, y1, y2, y3, y4, y5, y6, yl, _⟩ := kg7 hI.box
         obtain ⟨u0, u1, u2, u3x, u4, u5, u6, ul, _⟩ := kg7 (H4.out.later HP.out.bel).box
         have hok := H4.out.all x (List.mem_of_getElem? hx)
         obtain ⟨tA, tc, et⟩ := own_slice hok.tr
         obtain ⟨A5, c5, w5, hrun5, hR5⟩ := app_sub HP.out hx et (by omega) rfl
         have HR5 := Lib.hid hR5
         have hqi : (q : Int) < (R4.length : Int) := by omega
         rw [et] at q1
         clear hok hx hR5 hI et ec
         generalize hi6 : q * 5 = i6 at *
         go_wp2_with fail
         go_region_law (refine step_append_run rfl (.tmp 63) (.tmp 81) 140 rfl (.slice B1 q e0) (.slice (some ⟨wr.heap.size, 0, none⟩) 1 1) (.slice A5 (q + 1) c5) (by simp [Act.eval]) (by simp [Act.eval]) hrun5 ?_)
         all_goals
          go_wp2_with fail
          go_roundw
          case rel => exact ⟨q + 1, A5, c5, by go_num, hq, rfl, HR5.out⟩
          case measure => simp [intOf]; omega
        ·
         have hqq : q = R4.length := by omega
         subst hqq
         have hki : ¬ (R4.length : Int) < (R4.length : Int) := by omega
         have hsin := subs_in (by have := HP.out.row; rw [List.take_length] at this; exact this) rfl (fun x hx => (H4.out.all x hx).later HP.out.bel)
         have HSIN := Lib.hid hsin
         have HBW := Lib.hid HP.out.bel
         obtain ⟨y0, y1, y2, y3, y4, y5, y6, yl, _⟩ := kg7 (H4.out.later HP.out.bel).box
         have hchk : chkE (subsV R4) T = dealE G1.L T := by unfold dealE; rw [← HST.out, strip_chk]
         have hcs := chk_cases (subsV R4) T
         have HCH := Lib.hid hchk
         rw [hchk] at hcs
         clear hsin HP
         rcases hcs with hE | hE
         ·
          have HE := Lib.hid hE
          have cx := rrange_c (subsV R4) B1 e0 T A2 c2 wr HSIN.out (HT4.out.below HBW.out) hSz (by rw [HCH.out]; exact hE)
          unfold GotSh at cx
          simp only [subsV_len] at cx
          clear hE hchk
          go_wp2_with fail
          with_reducible refine cx.mono ?_
          rintro e w6 ⟨As, cs, Rs, rfl, hsh, hmr, hb6⟩
          have HB6 := Lib.hid (HBW.out.trans (hb6.mono HBW.out.size))
          have HSB : Hid (W4.heap.size ≤ wr.heap.size) := Lib.hid HBW.out.size
          have hZ : wr.heap.size ≤ w6.heap.size := hb6.size
          have HDD : Hid (rangeD (subsV R4) T = rangeD (subsD G1.L) T) := Lib.hid (by rw [← HST.out, strip_range])
          obtain ⟨bz, hbz⟩ : ∃ bz, wr.heap.size = bz := ⟨_, rfl⟩
          rw [hbz] at HSB hsh
          clear hbz
          have hRs : Rs.length = R4.length := by have := congrArg List.length hmr; simpa [subsV_len] using this
          have HRs := Lib.hid hRs
          have HST2 : Hid (KDs W4 B p (.slice (some ⟨g, 0, none⟩) R4.length c) R4 G1 bz (.slice As R4.length cs) (rangeD (subsD G1.L) T) Rs 0 w6) := Lib.hid ⟨Nat.zero_le _, by rw [dpR_zero]; exact (H4.out.later HB6.out).abs' rfl, by rw [← HDD.out]; exact hsh, Off.of_below _ HB6.out⟩
          clear hb6 cx hsh hmr hRs
          go_wp2_with fail
          go_loopw [20] (fun j wx => ∃ q : Nat, j = .int .i64 q ∧ KDs W4 B p (.slice (some ⟨g, 0, none⟩) R4.length c) R4 G1 bz (.slice As R4.length cs) (rangeD (subsD G1.L) T) Rs q wx) (fun j _ => R4.length - (intOf j).toNat)
          case atStart => exact ⟨0, rfl, HST2.out⟩
          case round =>
           obtain ⟨q, rfl, hD⟩ := hrel
           have hle := hD.le
           have HD := Lib.hid hD
           clear HST2
           by_cases hq : q < R4.length
           ·
            obtain ⟨x, hx⟩ : ∃ x, R4[q]? = some x := ⟨_, List.getElem?_eq_getElem hq⟩
            obtain ⟨r, hr⟩ : ∃ r, Rs[q]? = some r := ⟨_, List.getElem?_eq_getElem (by rw [HRs.out]; exact hq)⟩
            obtain ⟨y0, y1, y2, y3, y4, y5, y6, yl, f2, f3, f4, f5, f6⟩ := kg7 hD.is.box
            obtain ⟨v0, v1, v2, v3, v4, v5, v6, vl, j2, j3, j4, j5, j6⟩ := kg7 hD.drew9.is.box
            obtain ⟨g', c', e, hgl, _, hgp, -, -, -, -, q4, hf⟩ := hD.drew9.is.at_ (dpR_at hx)
            injection e with e en ec
            injection e with e
            injection e with e
            subst e
            clear en ec
            have hf4 := hf (q * 5 + 4)
            obtain ⟨-, g3, eA, hg3, hb3, s0, s1, -⟩ := hD.drew9.sh.at_ hr
            subst eA
            obtain ⟨pA, pc, ep⟩ := own_slice (hD.sh.parts q r hr)
            have HBg : Hid (g < bz) := Lib.hid (by
             obtain ⟨g0, c0, e0', hg0, _⟩ := H4.out.at_ hx
             have hgg : g = g0 := by simpa [Value.ownBlock] using congrArg Value.ownBlock e0'
             rw [← hgg] at hg0
             exact Nat.lt_of_lt_of_le hg0 HSB.out)
            have HBB : Hid (B ≤ bz) := Lib.hid (Nat.le_trans (Nat.le_trans hBW O4.out.size) HSB.out)
            obtain ⟨rn, rv⟩ := r
            dsimp only at ep s0 s1
            subst ep
            have HST3 := Lib.hid (hD.step hx hr HBB.out HBg.out).drew9
            have hqi : (q : Int) < (R4.length : Int) := by omega
            dsimp only at HST3
            clear hD hx hr hf HBg HBB HD hle
            generalize ((rangeD (subsD G1.L) T) q).length = pn at *
            generalize hi7 : q * 5 = i7 at *
            go_wp2_with fail
            go_region
            all_goals go_wp2_with fail
            all_goals go_roundw
            case rel => exact ⟨q + 1, by go_num, HST3.out⟩
            case measure => simp [intOf]; omega
           ·
            have hqq : q = R4.length := by omega
            subst hqq
            have hqi : ¬ (R4.length : Int) < (R4.length : Int) := by omega
            have HDG : Hid (dealD T false G1 = { G1 with ph := 3, un := 0, L := G1.L.mapIdx fun j x => { x with P := (rangeD (subsD G1.L) T) j } }) := Lib.hid (by unfold dealD; rw [HE.out, if_pos rfl]; rfl)
            have HAB : Hid ((dpR (rangeD (subsD G1.L) T) Rs R4 R4.length).map MV.d = G1.L.mapIdx fun j x => { x with P := (rangeD (subsD G1.L) T) j }) := Lib.hid (dpR_abs H4.out.abs)
            have o3 := (Off.one wr ⟨p, 2, none⟩ (.int .i64 3)).set (p := ⟨p, 5, none⟩) (.inl (show p = p from rfl)) (.int .i64 0)
            have h3 := hD.is.put (G' := { G1 with ph := 3, un := 0, L := (dpR (rangeD (subsD G1.L) T) Rs R4 R4.length).map MV.d }) o3 ((hD.is.box.set 2 (.int .i64 3)).set 5 (.int .i64 0)) rfl
            obtain ⟨x5, hx5⟩ : ∃ x, (dpR (rangeD (subsD G1.L) T) Rs R4 R4.length)[k]? = some x := ⟨_, List.getElem?_eq_getElem (by rw [dpR_len, HR4.out]; exact hkR)⟩
            obtain ⟨y0, y1, y2, y3, y4, y5, y6, yl, f2, f3, f4, f5, f6⟩ := kg7 hD.is.box
            obtain ⟨g5, c5, ev5, -, -, -, -, -, -, -, r4, -⟩ := hD.is.at_ hx5
            have hg5 : g5 = g := by simpa [Value.ownBlock] using (congrArg Value.ownBlock ev5).symm
            subst hg5
            have hall5 := h3.all x5 (List.mem_of_getElem? hx5)
            obtain ⟨pA, pc, epv⟩ := own_slice hall5.pr
            rw [epv] at r4
            have HPR : Hid (World.ownsRow _ B 34 2 (.slice pA x5.d.P.length pc) x5.d.P.length (prtC x5.d.P)) := Lib.hid (by have := hall5.pr; rw [epv] at this; exact this)
            have HX5 : Hid (x5.d.P = partAt k { G1 with ph := 3, un := 0, L := G1.L.mapIdx fun j x => { x with P := (rangeD (subsD G1.L) T) j } }) := Lib.hid (by
             unfold partAt
             rw [← HAB.out]
             show _ = (match (List.map MV.d _)[k]? with | some x => x.P | none => [])
             rw [List.getElem?_map, hx5]
             rfl)
            have H3 := Lib.hid h3
            have O3 := Lib.hid ((O4.out.trans hD.off (fun _ _ e => e)).trans o3 (fun _ _ e => .inl e))
            have hkq : (k : Int) < (R4.length : Int) := by rw [HR4.out]; exact hk1
            clear hD h3 o3 HD hx5 ev5 hall5 epv hle
            rw [hi5] at r4
            go_wp2_with fail
            go_ret2
            rw [HE.out, HDG.out]
            exact ⟨pA, pc, x5.d.P, rfl, HPR.out, (fun _ => ⟨k, HKG.out, HX5.out⟩), (fun h => absurd rfl h), _, _, H3.out.abs' (by rw [HAB.out]), O3.out, fun k hk => .inl hk⟩
         ·
          have HE := Lib.hid hE
          have hD : dealD T false G1 = G1 := by unfold dealD; rw [hE, if_neg (by decide)]
          have cx := rrange_bad (subsV R4) B1 e0 T A2 c2 wr HSIN.out (HT4.out.below HBW.out) hSl hTl hSz (by rw [HCH.out]; exact hE)
          simp only [subsV_len] at cx
          have HDG := Lib.hid hD
          clear hE hD hchk
          go_wp2_with fail
          with_reducible refine cx.mono ?_
          rintro e w6 ⟨rfl, hb6⟩
          have HB6 := Lib.hid (HBW.out.trans (hb6.mono HBW.out.size))
          clear hb6 cx
          go_wp2_with fail
          go_ret2
          rw [HE.out, HDG.out]
          exact KGot2.no (H4.out.later HB6.out) (O4.out.later HB6.out) (fun k hk => .inl hk) (by first | decide | exact (fun e => by rw [e] at hK'; cases hK'))
     | true =>
      go_enter Tryz.func56, Tryz.ntmps56
      go_wp2_with fail
      with_reducible refine (ct _).mono ?_
      rintro e w1 ⟨rfl, hw9⟩
      have hw8 := hw9.symm
      subst hw8
      clear hw9
      go_wp2_with fail
      with_reducible refine ck.mono ?_
      rintro e w2 ⟨rfl, hb2⟩
      have HB2 := Lib.hid hb2
      have cf2 := cf _ hb2
      clear hb2 cf ct ck
      go_wp2_with fail
      with_reducible refine cf2.mono ?_
      rintro e w3 ⟨rfl, hb3⟩
      have HB3 := Lib.hid (HB2.out.trans (hb3.mono HB2.out.size))
      have hbd : Below w3.heap.size w3 w3.drew := (Below.refl _ _).drew
      have I3d := HI.out.later (HB3.out.trans (hbd.mono HB3.out.size))
      obtain ⟨u3, s1, s2, s3, s4, s5, s6⟩ := HS.out _ I3d
      obtain ⟨R4, hR4, h4a, o4a⟩ := HH.out _ (HI.out.later HB3.out)
      have hbd8 : Below (w3.setCell ⟨g, k * 5 + 2, none⟩ (.int .i64 (now + G.ss))).heap.size (w3.setCell ⟨g, k * 5 + 2, none⟩ (.int .i64 (now + G.ss))) (w3.setCell ⟨g, k * 5 + 2, none⟩ (.int .i64 (now + G.ss))).drew := (Below.refl _ _).drew
      have h4 := h4a.later hbd8
      have H4 := Lib.hid h4
      have O4 := Lib.hid (((Off.of_below (GrS p (.slice (some ⟨g, 0, none⟩) R.length c)) HB3.out).trans o4a (fun _ _ e => e)).later hbd8)
      obtain ⟨z0, z1, z2, z3, z4, z5, z6, zl, _⟩ := kg7 h4.box
      have HR4 := Lib.hid hR4
      have hw : IntKind.i64.wrap (now + G.ss) = now + G.ss := by rw [IntKind.wrap_i64]; omega
      clear hb3 h4a o4a hR4 cf2 I3d hbd hbd8
      have hlenR : R4.length = G1.L.length := h4.len
      have HST : Hid (stripS (subsV R4) = subsD G1.L) := Lib.hid (subs_strip h4.abs)
      have hT4 : TpIn _ A2 T := (fun hp => by
       obtain ⟨b, off, e, hlt, hc⟩ := HT.out hp
       exact ⟨b, off, e, Nat.lt_of_lt_of_le hlt O4.out.size, fun j x hx => ⟨(O4.out.cell (p := ⟨b, off + j * 2, none⟩) hlt (HTS.out hp ⟨b, off, none⟩ e)).trans (hc j x hx).1, (O4.out.cell (p := ⟨b, off + j * 2 + 1, none⟩) hlt (HTS.out hp ⟨b, off, none⟩ e)).trans (hc j x hx).2⟩⟩ : TpIn (w3.setCell ⟨g, k * 5 + 2, none⟩ (.int .i64 (now + G.ss))).drew A2 T)
      have HT4 := Lib.hid hT4
      have hlR : R4.length ≤ 20 := by omega
      have hSl : (subsV R4).length ≤ 140737488351232 := by rw [subsV_len]; omega
      have hSz : ∀ x ∈ subsV R4, x.2.1.length ≤ 140737488351232 := fun x hx => by
       unfold subsV at hx
       obtain ⟨y, hy, rfl⟩ := List.mem_map.1 hx
       have := hTL1 y.d (by rw [← h4.abs]; exact List.mem_map_of_mem hy)
       show y.d.T.length ≤ _
       omega
      have h4x := h4
      clear hT4 h4 hlenR
      generalize hi5 : k * 5 = i5 at *
      go_wp2_with fail
      go_region
      all_goals
       clear s1 s2 s3 s4 s5 s6
       generalize (w3.setCell ⟨g, i5 + 2, none⟩ (.int .i64 (now + G.ss))).drew = W4 at *
       have HR0 := Lib.hid (RowS.start W4 142 2)
       clear h4x
       rw [← HR4.out] at H4 z6
       go_wp2_with fail
       have hdk : decide (0 < k) = false := decide_eq_false (by omega)
       rw [hdk]
       clear hdk hkneg
       go_loopw [16, 17] (fun a j wr => ∃ (k : Nat) (B1 : Option Addr) (e : Nat), j = .int .i64 k ∧ k ≤ R4.length ∧ a = .slice B1 k e ∧ RowS W4 142 2 (.slice B1 k e) k (subC (R4.take k)) wr) (fun _ j _ => R4.length - (intOf j).toNat)
       case atStart => exact ⟨0, none, 0, rfl, Nat.zero_le _, rfl, HR0.out⟩
       case round =>
        obtain ⟨q, B1, e0, rfl, hql, rfl, hP⟩ := hrel
        have HP := Lib.hid hP
        clear hP HR0
        by_cases hq : q < R4.length
        ·
         obtain ⟨x, hx⟩ : ∃ x, R4[q]? = some x := ⟨_, List.getElem?_eq_getElem hq⟩
         have hI := H4.out.later (HP.out.bel.trans (((Below.refl _ wr).drew).mono HP.out.bel.size))
         obtain ⟨g3, c3, e3, hgl, _, hgp, q0, q1, -⟩ := hI.at_ hx
         injection e3 with e3 en ec
         clear en
         injection e3 with e3
         injection e3 with e3
         subst e3
         obtain ⟨y0, y1, y2, y3, y4, y5, y6, yl, _⟩ := kg7 hI.box
         obtain ⟨u0, u1, u2, u3x, u4, u5, u6, ul, _⟩ := kg7 (H4.out.later HP.out.bel).box
         have hok := H4.out.all x (List.mem_of_getElem? hx)
         obtain ⟨tA, tc, et⟩ := own_slice hok.tr
         obtain ⟨A5, c5, w5, hrun5, hR5⟩ := app_sub HP.out hx et (by omega) rfl
         have HR5 := Lib.hid hR5
         have hqi : (q : Int) < (R4.length : Int) := by omega
         rw [et] at q1
         clear hok hx hR5 hI et ec
         generalize hi6 : q * 5 = i6 at *
         go_wp2_with fail
         go_region_law (refine step_append_run rfl (.tmp 63) (.tmp 81) 140 rfl (.slice B1 q e0) (.slice (some ⟨wr.heap.size, 0, none⟩) 1 1) (.slice A5 (q + 1) c5) (by simp [Act.eval]) (by simp [Act.eval]) hrun5 ?_)
         all_goals
          go_wp2_with fail
          go_roundw
          case rel => exact ⟨q + 1, A5, c5, by go_num, hq, rfl, HR5.out⟩
          case measure => simp [intOf]; omega
        ·
         have hqq : q = R4.length := by omega
         subst hqq
         have hki : ¬ (R4.length : Int) < (R4.length : Int) := by omega
         have hsin := subs_in (by have := HP.out.row; rw [List.take_length] at this; exact this) rfl (fun x hx => (H4.out.all x hx).later HP.out.bel)
         have HSIN := Lib.hid hsin
         have HBW := Lib.hid HP.out.bel
         obtain ⟨y0, y1, y2, y3, y4, y5, y6, yl, _⟩ := kg7 (H4.out.later HP.out.bel).box
         have hchk : chkE (subsV R4) T = dealE G1.L T := by unfold dealE; rw [← HST.out, strip_chk]
         have hcs := chk_cases (subsV R4) T
         have HCH := Lib.hid hchk
         rw [hchk] at hcs
         clear hsin HP
         rcases hcs with hE | hE
         ·
          have HE := Lib.hid hE
          have cx := rrange_c (subsV R4) B1 e0 T A2 c2 wr HSIN.out (HT4.out.below HBW.out) hSz (by rw [HCH.out]; exact hE)
          unfold GotSh at cx
          simp only [subsV_len] at cx
          clear hE hchk
          go_wp2_with fail
          with_reducible refine cx.mono ?_
          rintro e w6 ⟨As, cs, Rs, rfl, hsh, hmr, hb6⟩
          have HB6 := Lib.hid (HBW.out.trans (hb6.mono HBW.out.size))
          have HSB : Hid (W4.heap.size ≤ wr.heap.size) := Lib.hid HBW.out.size
          have hZ : wr.heap.size ≤ w6.heap.size := hb6.size
          have cx2 := rround_c (subsV R4) B1 e0 T A2 c2 w6 (HSIN.out.below hb6) (HT4.out.below HB6.out) hSz (by rw [HCH.out]; exact HE.out)
          unfold GotSh at cx2
          simp only [subsV_len] at cx2
          clear hsh hmr cx
          go_wp2_with fail
          with_reducible refine cx2.mono ?_
          rintro e w7 ⟨As, cs, Rs, rfl, hsh, hmr, hb7⟩
          replace HB6 := Lib.hid (HB6.out.trans (hb7.mono HB6.out.size))
          replace HSB : Hid (W4.heap.size ≤ w6.heap.size) := Lib.hid (Nat.le_trans HSB.out hZ)
          have cx := hb7
          have HDD : Hid ((roundD (subsV R4) T).1 = (roundD (subsD G1.L) T).1) := Lib.hid (by rw [← HST.out, strip_round])
          obtain ⟨bz, hbz⟩ : ∃ bz, w6.heap.size = bz := ⟨_, rfl⟩
          rw [hbz] at HSB hsh
          clear hbz cx2 hb7
          have hRs : Rs.length = R4.length := by have := congrArg List.length hmr; simpa [subsV_len] using this
          have HRs := Lib.hid hRs
          have HST2 : Hid (KDs W4 B p (.slice (some ⟨g, 0, none⟩) R4.length c) R4 G1 bz (.slice As R4.length cs) ((roundD (subsD G1.L) T).1) Rs 0 w7) := Lib.hid ⟨Nat.zero_le _, by rw [dpR_zero]; exact (H4.out.later HB6.out).abs' rfl, by rw [← HDD.out]; exact hsh, Off.of_below _ HB6.out⟩
          clear hb6 cx hsh hmr hRs
          go_wp2_with fail
          go_loopw [20] (fun j wx => ∃ q : Nat, j = .int .i64 q ∧ KDs W4 B p (.slice (some ⟨g, 0, none⟩) R4.length c) R4 G1 bz (.slice As R4.length cs) ((roundD (subsD G1.L) T).1) Rs q wx) (fun j _ => R4.length - (intOf j).toNat)
          case atStart => exact ⟨0, rfl, HST2.out⟩
          case round =>
           obtain ⟨q, rfl, hD⟩ := hrel
           have hle := hD.le
           have HD := Lib.hid hD
           clear HST2
           by_cases hq : q < R4.length
           ·
            obtain ⟨x, hx⟩ : ∃ x, R4[q]? = some x := ⟨_, List.getElem?_eq_getElem hq⟩
            obtain ⟨r, hr⟩ : ∃ r, Rs[q]? = some r := ⟨_, List.getElem?_eq_getElem (by rw [HRs.out]; exact hq)⟩
            obtain ⟨y0, y1, y2, y3, y4, y5, y6, yl, f2, f3, f4, f5, f6⟩ := kg7 hD.is.box
            obtain ⟨v0, v1, v2, v3, v4, v5, v6, vl, j2, j3, j4, j5, j6⟩ := kg7 hD.drew9.is.box
            obtain ⟨g', c', e, hgl, _, hgp, -, -, -, -, q4, hf⟩ := hD.drew9.is.at_ (dpR_at hx)
            injection e with e en ec
            injection e with e
            injection e with e
            subst e
            clear en ec
            have hf4 := hf (q * 5 + 4)
            obtain ⟨-, g3, eA, hg3, hb3, s0, s1, -⟩ := hD.drew9.sh.at_ hr
            subst eA
            obtain ⟨pA, pc, ep⟩ := own_slice (hD.sh.parts q r hr)
            have HBg : Hid (g < bz) := Lib.hid (by
             obtain ⟨g0, c0, e0', hg0, _⟩ := H4.out.at_ hx
             have hgg : g = g0 := by simpa [Value.ownBlock] using congrArg Value.ownBlock e0'
             rw [← hgg] at hg0
             exact Nat.lt_of_lt_of_le hg0 HSB.out)
            have HBB : Hid (B ≤ bz) := Lib.hid (Nat.le_trans (Nat.le_trans hBW O4.out.size) HSB.out)
            obtain ⟨rn, rv⟩ := r
            dsimp only at ep s0 s1
            subst ep
            have HST3 := Lib.hid (hD.step hx hr HBB.out HBg.out).drew9
            have hqi : (q : Int) < (R4.length : Int) := by omega
            dsimp only at HST3
            clear hD hx hr hf HBg HBB HD hle
            generalize (((roundD (subsD G1.L) T).1) q).length = pn at *
            generalize hi7 : q * 5 = i7 at *
            go_wp2_with fail
            go_region
            all_goals go_wp2_with fail
            all_goals go_roundw
            case rel => exact ⟨q + 1, by go_num, HST3.out⟩
            case measure => simp [intOf]; omega
           ·
            have hqq : q = R4.length := by omega
            subst hqq
            have hqi : ¬ (R4.length : Int) < (R4.length : Int) := by omega
            have HDG : Hid (dealD T true G1 = { G1 with ph := 3, un := 0, L := G1.L.mapIdx fun j x => { x with P := ((roundD (subsD G1.L) T).1) j } }) := Lib.hid (by unfold dealD; rw [HE.out, if_pos rfl]; rfl)
            have HAB : Hid ((dpR ((roundD (subsD G1.L) T).1) Rs R4 R4.length).map MV.d = G1.L.mapIdx fun j x => { x with P := ((roundD (subsD G1.L) T).1) j }) := Lib.hid (dpR_abs H4.out.abs)
            have o3 := (Off.one wr ⟨p, 2, none⟩ (.int .i64 3)).set (p := ⟨p, 5, none⟩) (.inl (show p = p from rfl)) (.int .i64 0)
            have h3 := hD.is.put (G' := { G1 with ph := 3, un := 0, L := (dpR ((roundD (subsD G1.L) T).1) Rs R4 R4.length).map MV.d }) o3 ((hD.is.box.set 2 (.int .i64 3)).set 5 (.int .i64 0)) rfl
            obtain ⟨x5, hx5⟩ : ∃ x, (dpR ((roundD (subsD G1.L) T).1) Rs R4 R4.length)[k]? = some x := ⟨_, List.getElem?_eq_getElem (by rw [dpR_len, HR4.out]; exact hkR)⟩
            obtain ⟨y0, y1, y2, y3, y4, y5, y6, yl, f2, f3, f4, f5, f6⟩ := kg7 hD.is.box
            obtain ⟨g5, c5, ev5, -, -, -, -, -, -, -, r4, -⟩ := hD.is.at_ hx5
            have hg5 : g5 = g := by simpa [Value.ownBlock] using (congrArg Value.ownBlock ev5).symm
            subst hg5
            have hall5 := h3.all x5 (List.mem_of_getElem? hx5)
            obtain ⟨pA, pc, epv⟩ := own_slice hall5.pr
            rw [epv] at r4
            have HPR : Hid (World.ownsRow _ B 34 2 (.slice pA x5.d.P.length pc) x5.d.P.length (prtC x5.d.P)) := Lib.hid (by have := hall5.pr; rw [epv] at this; exact this)
            have HX5 : Hid (x5.d.P = partAt k { G1 with ph := 3, un := 0, L := G1.L.mapIdx fun j x => { x with P := ((roundD (subsD G1.L) T).1) j } }) := Lib.hid (by
             unfold partAt
             rw [← HAB.out]
             show _ = (match (List.map MV.d _)[k]? with | some x => x.P | none => [])
             rw [List.getElem?_map, hx5]
             rfl)
            have H3 := Lib.hid h3
            have O3 := Lib.hid ((O4.out.trans hD.off (fun _ _ e => e)).trans o3 (fun _ _ e => .inl e))
            have hkq : (k : Int) < (R4.length : Int) := by rw [HR4.out]; exact hk1
            clear hD h3 o3 HD hx5 ev5 hall5 epv hle
            rw [hi5] at r4
            go_wp2_with fail
            go_ret2
            rw [HE.out, HDG.out]
            exact ⟨pA, pc, x5.d.P, rfl, HPR.out, (fun _ => ⟨k, HKG.out, HX5.out⟩), (fun h => absurd rfl h), _, _, H3.out.abs' (by rw [HAB.out]), O3.out, fun k hk => .inl hk⟩
         ·
          have HE := Lib.hid hE
          have hD : dealD T true G1 = G1 := by unfold dealD; rw [hE, if_neg (by decide)]
          have cx := rrange_bad (subsV R4) B1 e0 T A2 c2 wr HSIN.out (HT4.out.below HBW.out) hSl hTl hSz (by rw [HCH.out]; exact hE)
          simp only [subsV_len] at cx
          have HDG := Lib.hid hD
          clear hE hD hchk
          go_wp2_with fail
          with_reducible refine cx.mono ?_
          rintro e w6 ⟨rfl, hb6⟩
          have HB6 := Lib.hid (HBW.out.trans (hb6.mono HBW.out.size))
          have cx2 := rround_bad (subsV R4) B1 e0 T A2 c2 w6 (HSIN.out.below hb6) (HT4.out.below HB6.out) hSl hTl hSz (by rw [HCH.out]; exact HE.out)
          simp only [subsV_len] at cx2
          go_wp2_with fail
          with_reducible refine cx2.mono ?_
          rintro e w7 ⟨rfl, hb7⟩
          replace HB6 := Lib.hid (HB6.out.trans (hb7.mono HB6.out.size))
          clear hb7 cx2
          clear hb6 cx
          go_wp2_with fail
          go_ret2
          rw [HE.out, HDG.out]
          exact KGot2.no (H4.out.later HB6.out) (O4.out.later HB6.out) (fun k hk => .inl hk) (by first | decide | exact (fun e => by rw [e] at hK'; cases hK'))
    ·
     obtain ⟨k1, hk1'⟩ : ∃ k1, k = k1 + 1 := ⟨k - 1, by omega⟩
     have hml : m ≠ leadM G1 := lead_more (by rw [← hk1']; exact HKP.out)
     have e2D : sync2D m T round G1 = G1 := by unfold sync2D; rw [if_pos hph, if_neg hml]
     have e2E : sync2E m T G1 = 13 := by unfold sync2E; rw [if_pos hph, if_neg hml]
     have hkpos : (0 : Int) < (k : Int) := by omega
     rw [e2D, e2E]
     clear hph e2D e2E hkk hk1' hml
     go_enter Tryz.func56, Tryz.ntmps56
     go_wp2_with fail
     with_reducible refine (ct _).mono ?_
     rintro e w1 ⟨rfl, hw9⟩
     have hw8 := hw9.symm
     subst hw8
     clear hw9
     go_wp2_with fail
     with_reducible refine ck.mono ?_
     rintro e w2 ⟨rfl, hb2⟩
     have HB2 := Lib.hid hb2
     have cf2 := cf _ hb2
     clear hb2 cf ct ck
     go_wp2_with fail
     with_reducible refine cf2.mono ?_
     rintro e w3 ⟨rfl, hb3⟩
     have HB3 := Lib.hid (HB2.out.trans (hb3.mono HB2.out.size))
     have hbd : Below w3.heap.size w3 w3.drew := (Below.refl _ _).drew
     have I3d := HI.out.later (HB3.out.trans (hbd.mono HB3.out.size))
     obtain ⟨u3, s1, s2, s3, s4, s5, s6⟩ := HS.out _ I3d
     obtain ⟨R4, hR4, h4a, o4a⟩ := HH.out _ (HI.out.later HB3.out)
     have hbd8 : Below (w3.setCell ⟨g, k * 5 + 2, none⟩ (.int .i64 (now + G.ss))).heap.size (w3.setCell ⟨g, k * 5 + 2, none⟩ (.int .i64 (now + G.ss))) (w3.setCell ⟨g, k * 5 + 2, none⟩ (.int .i64 (now + G.ss))).drew := (Below.refl _ _).drew
     have h4 := h4a.later hbd8
     have H4 := Lib.hid h4
     have O4 := Lib.hid (((Off.of_below (GrS p (.slice (some ⟨g, 0, none⟩) R.length c)) HB3.out).trans o4a (fun _ _ e => e)).later hbd8)
     obtain ⟨z0, z1, z2, z3, z4, z5, z6, zl, _⟩ := kg7 h4.box
     have HR4 := Lib.hid hR4
     have hw : IntKind.i64.wrap (now + G.ss) = now + G.ss := by rw [IntKind.wrap_i64]; omega
     clear hb3 h4a o4a hR4 cf2 I3d hbd hbd8
     generalize hi5 : k * 5 = i5 at *
     go_wp2_with fail
     go_region
     all_goals
      clear s1 s2 s3 s4 s5 s6
      go_wp2_with fail
      go_ret2
      exact KGot2.no H4.out O4.out (fun k hk => .inl hk) (by first | decide | exact (fun e => by rw [e] at hK'; cases hK'))
   ·
    have hph' : (G1.ph == 2) = false := beq_eq_false_iff_ne.2 hph
    have e2D : sync2D m T round G1 = G1 := by unfold sync2D; rw [if_neg hph]
    have e2E : sync2E m T G1 = 0 := by unfold sync2E; rw [if_neg hph]
    rw [e2D, e2E]
    clear hph e2D e2E
    go_enter Tryz.func56, Tryz.ntmps56
    go_wp2_with fail
    with_reducible refine (ct _).mono ?_
    rintro e w1 ⟨rfl, hw9⟩
    have hw8 := hw9.symm
    subst hw8
    clear hw9
    go_wp2_with fail
    with_reducible refine ck.mono ?_
    rintro e w2 ⟨rfl, hb2⟩
    have HB2 := Lib.hid hb2
    have cf2 := cf _ hb2
    clear hb2 cf ct ck
    go_wp2_with fail
    with_reducible refine cf2.mono ?_
    rintro e w3 ⟨rfl, hb3⟩
    have HB3 := Lib.hid (HB2.out.trans (hb3.mono HB2.out.size))
    have hbd : Below w3.heap.size w3 w3.drew := (Below.refl _ _).drew
    have I3d := HI.out.later (HB3.out.trans (hbd.mono HB3.out.size))
    obtain ⟨u3, s1, s2, s3, s4, s5, s6⟩ := HS.out _ I3d
    obtain ⟨R4, hR4, h4a, o4a⟩ := HH.out _ (HI.out.later HB3.out)
    have hbd8 : Below (w3.setCell ⟨g, k * 5 + 2, none⟩ (.int .i64 (now + G.ss))).heap.size (w3.setCell ⟨g, k * 5 + 2, none⟩ (.int .i64 (now + G.ss))) (w3.setCell ⟨g, k * 5 + 2, none⟩ (.int .i64 (now + G.ss))).drew := (Below.refl _ _).drew
    have h4 := h4a.later hbd8
    have H4 := Lib.hid h4
    have O4 := Lib.hid (((Off.of_below (GrS p (.slice (some ⟨g, 0, none⟩) R.length c)) HB3.out).trans o4a (fun _ _ e => e)).later hbd8)
    obtain ⟨z0, z1, z2, z3, z4, z5, z6, zl, _⟩ := kg7 h4.box
    have HR4 := Lib.hid hR4
    have hw : IntKind.i64.wrap (now + G.ss) = now + G.ss := by rw [IntKind.wrap_i64]; omega
    clear hb3 h4a o4a hR4 cf2 I3d hbd hbd8
    obtain ⟨x5, hx5⟩ : ∃ x, R4[k]? = some x := ⟨_, List.getElem?_eq_getElem (by rw [HR4.out]; exact hkR)⟩
    obtain ⟨g5, c5, ev5, -, -, -, -, -, -, -, r4, -⟩ := h4.at_ hx5
    have hg5 : g5 = g := by simpa [Value.ownBlock] using (congrArg Value.ownBlock ev5).symm
    subst hg5
    have hall5 := h4.all x5 (List.mem_of_getElem? hx5)
    obtain ⟨pA, pc, epv⟩ := own_slice hall5.pr
    rw [epv] at r4
    have HPR : Hid (World.ownsRow _ B 34 2 (.slice pA x5.d.P.length pc) x5.d.P.length (prtC x5.d.P)) := Lib.hid (by have := hall5.pr; rw [epv] at this; exact this)
    have HX5 : Hid (x5.d.P = partAt k G1) := Lib.hid (by
     unfold partAt
     rw [← H4.out.abs]
     show _ = (match (List.map MV.d _)[k]? with | some x => x.P | none => [])
     rw [List.getElem?_map, hx5]
     rfl)
    clear hx5 ev5 hall5 epv
    generalize hi5 : k * 5 = i5 at *
    go_wp2_with fail
    go_region
    all_goals
     clear s1 s2 s3 s4 s5 s6
     go_wp2_with fail
     go_ret2
     exact ⟨pA, pc, x5.d.P, rfl, HPR.out, (fun _ => ⟨k, HKG.out, HX5.out⟩), (fun h => absurd rfl h), _, R4, H4.out, O4.out, fun k hk => .inl hk⟩
  ·
   have hE : syncE m gen T now G = knowE m gen G := by unfold syncE; rw [ht, if_pos rfl, if_neg hK]
   have hD : syncD m gen T round now G = G := by unfold syncD; rw [if_neg (fun e => hK e.2)]
   rw [hE, hD]
   have hK' : (knowE m gen G == 0) = false := beq_eq_false_iff_ne.2 hK
   obtain ⟨q, hq⟩ : ∃ q, knowE m gen G = q := ⟨_, rfl⟩
   rw [hq] at ck hK' ⊢
   clear h hG ht hE hD hTL hTz hT hTS hK hq
   go_enter Tryz.func56, Tryz.ntmps56
   go_wp2_with fail
   with_reducible refine (ct _).mono ?_
   rintro e w1 ⟨rfl, hw9⟩
   have hw8 := hw9.symm
   subst hw8
   clear hw9
   go_wp2_with fail
   with_reducible refine ck.mono ?_
   rintro e w2 ⟨rfl, hb2⟩
   go_wp2_with fail
   go_ret2
   exact KGot2.no (HI.out.later hb2) (Off.of_below _ hb2) (fun k hk => .inl hk) (by first | decide | exact (fun e => by rw [e] at hK'; cases hK'))
end Go.Proofs.YtlokhhjhckiloaaGreat
/- coord: where program and document answer alike, and have the same groups. No condition but that calls are not too many. -/
namespace Go.Proofs.YtlokhhjhckiloaaGreat
open Go.RowKit Go.Maps Go.ChangeMaps Go.WideMaps
set_option linter.unusedVariables false
/-- Rows that rise with the same names are the same. -/
theorem rise_ext : ∀ {F H : List CE}, (F.Pairwise fun a b => bytesBefore a.name b.name = true) → (H.Pairwise fun a b => bytesBefore a.name b.name = true) → (∀ n, (ofN F n).isSome = (ofN H n).isSome) → F.map CE.name = H.map CE.name
 | [], [], _, _, _ => rfl
 | [], y :: r, _, _, h => by
  have := h y.name
  unfold ofN at this
  rw [List.find?_cons_of_pos (by simp)] at this
  cases this
 | x :: l, [], _, _, h => by
  have := h x.name
  unfold ofN at this
  rw [List.find?_cons_of_pos (by simp)] at this
  cases this
 | x :: l, y :: r, hF, hH, h => by
  have hF1 := List.pairwise_cons.1 hF
  have hH1 := List.pairwise_cons.1 hH
  have mem : ∀ (L : List CE) (n : List UInt8), (ofN L n).isSome = true ↔ ∃ e ∈ L, e.name = n := fun L n => by
   unfold ofN
   rw [List.find?_isSome]
   simp
  have hxy : x.name = y.name := by
   by_cases e : x.name = y.name
   ·
    exact e
   ·
    have h1 : ∃ e ∈ (y :: r), e.name = x.name := (mem _ _).1 (by rw [← h]; exact (mem _ _).2 ⟨x, List.mem_cons_self, rfl⟩)
    have h2 : ∃ e ∈ (x :: l), e.name = y.name := (mem _ _).1 (by rw [h]; exact (mem _ _).2 ⟨y, List.mem_cons_self, rfl⟩)
    obtain ⟨e1, m1, n1⟩ := h1
    obtain ⟨e2, m2, n2⟩ := h2
    have b1 : bytesBefore y.name x.name = true := by
     rcases List.mem_cons.1 m1 with rfl | m1
     ·
      exact absurd n1.symm e
     ·
      rw [← n1]; exact hH1.1 _ m1
    have b2 : bytesBefore x.name y.name = true := by
     rcases List.mem_cons.1 m2 with rfl | m2
     ·
      exact absurd n2 e
     ·
      rw [← n2]; exact hF1.1 _ m2
    rw [bytes_asymm b1] at b2
    cases b2
  have tail : ∀ n, (ofN l n).isSome = (ofN r n).isSome := fun n => by
   have hn := h n
   by_cases e : x.name = n
   ·
    have k1 : (ofN l n).isSome = false := by
     rw [Bool.eq_false_iff]
     intro hs
     obtain ⟨e1, m1, n1⟩ := (mem _ _).1 hs
     have := hF1.1 _ m1
     rw [n1, ← e, Go.WideAt.bytes_irrefl] at this
     cases this
    have k2 : (ofN r n).isSome = false := by
     rw [Bool.eq_false_iff]
     intro hs
     obtain ⟨e1, m1, n1⟩ := (mem _ _).1 hs
     have := hH1.1 _ m1
     rw [n1, ← e, hxy, Go.WideAt.bytes_irrefl] at this
     cases this
    rw [k1, k2]
   ·
    unfold ofN at hn ⊢
    rw [List.find?_cons_of_neg (by simpa using e), List.find?_cons_of_neg (by rw [← hxy]; simpa using e)] at hn
    exact hn
  show x.name :: l.map CE.name = y.name :: r.map CE.name
  rw [hxy, rise_ext hF1.2 hH1.2 tail]
theorem gv_some {F : List CE} {D : Nat → GD} (n : List UInt8) : (gv F D n).isSome = (ofN F n).isSome := by
 unfold gv
 cases ofN F n <;> rfl
/-- All groups keep what a group keeps. -/
def GIs (st : List UInt8 → Option GD) : Prop := ∀ s G, st s = some G → GI G
theorem GIs.none : GIs (fun _ => none) := fun s G h => by cases h
theorem GIs.put {st : List UInt8 → Option GD} (h : GIs st) (s : List UInt8) {g : Option GD} (hg : ∀ G, g = some G → GI G) : GIs (putSt st s g) := fun x G hx => by
 unfold putSt at hx
 split at hx
 ·
  exact hg G hx
 ·
  exact h x G hx
theorem GIs.map {st : List UInt8 → Option GD} (h : GIs st) (s : List UInt8) {f : GD → GD} (hf : ∀ G, GI G → GI (f G)) : GIs (putSt st s ((st s).map f)) := h.put s (fun G hG => by
 cases hs : st s with
 | none => rw [hs] at hG; cases hG
 | some G0 =>
  rw [hs] at hG
  simp only [Option.map_some] at hG
  injection hG with hG
  rw [← hG]
  exact hf G0 (h s G0 hs))
theorem GIs.step {st : List UInt8 → Option GD} (h : GIs st) (x : OC) (gg : Int) (n : Nat) (ss rb : Int) : GIs (stepSt x gg st n ss rb) := by
 unfold stepSt
 split
 ·
  unfold joSt
  split
  ·
   refine h.put _ (fun G hG => ?_)
   injection hG with hG
   rw [← hG]
   refine GI.join ?_ _ _ _
   unfold joGs
   cases hs : st x.g.data.toList with
   | none => exact GI.new ss rb
   | some G0 => exact h _ _ hs
  ·
   exact h
 ·
  split
  ·
   exact h.map _ (fun G hG => hG.sync _ _ _ _ _)
  ·
   split
   ·
    exact h.map _ (fun G hG => hG.beat _ _ _)
   ·
    split
    ·
     exact h.map _ (fun G hG => hG.leave _ _)
    ·
     split
     ·
      exact h
     ·
      intro s G hG
      have hG : (st s).map (tickD x.now) = some G := hG
      cases hs : st s with
      | none => rw [hs] at hG; cases hG
      | some G0 =>
       rw [hs] at hG
       simp only [Option.map_some] at hG
       injection hG with hG
       rw [← hG]
       exact (h s G0 hs).tick _
theorem step_same {st : List UInt8 → Option GD} (h : GIs st) (x : OC) (gg : Int) (n : Nat) (ss rb : Int) : stepSk x gg st n ss rb = stepSt x gg st n ss rb := by
 have key : ∀ s, (st s).map (kleaveD x.m x.now) = (st s).map (leaveD x.m x.now) := fun s => by
  cases hs : st s with
  | none => rfl
  | some G => exact congrArg some (leave_eq (h s G hs) _ _).1
 have key2 : ∀ s, (st s).map (ktickD x.now) = (st s).map (tickD x.now) := fun s => by
  cases hs : st s with
  | none => rfl
  | some G => exact congrArg some (tick_eq (h s G hs) _)
 unfold stepSk stepSt
 rw [key]
 split
 ·
  rfl
 ·
  split
  ·
   rfl
  ·
   split
   ·
    rfl
   ·
    split
    ·
     rfl
    ·
     split
     ·
      rfl
     ·
      exact funext key2
theorem stepQ_same {st : List UInt8 → Option GD} (h : GIs st) (x : OC) (gg : Int) (n : Nat) (ss rb : Int) (O : List Of.KE) (h1 : x.do_ ≠ 1) : stepQ x gg st st n n ss rb O O := by
 unfold stepQ
 split
 ·
  exact ⟨rfl, rfl⟩
 ·
  try rw [if_neg h1]
  split
  ·
   cases hs : st x.g.data.toList with
   | none => rfl
   | some G => exact (beat_eq (h _ G hs) _ _ _).symm
  ·
   split
   ·
    cases hs : st x.g.data.toList with
    | none => rfl
    | some G => exact (leave_eq (h _ G hs) _ _).2.symm
   ·
    split
    ·
     exact ⟨rfl, rfl⟩
    ·
     split
     ·
      rfl
     ·
      split
      ·
       exact ⟨rfl, rfl⟩
      ·
       trivial
section
variable {W w w' : World} {p q t : Nat} {k ss rb : Int} {st : List UInt8 → Option GD} {n nk : Nat} {O OK : List Of.KE}
theorem PA.len_eq (h : PA W p q t k ss rb st st n nk O OK w) : n = nk := by
 obtain ⟨g, o, og, F, V, D, c, A, F', V', D', h1, k1, e1, e2, rfl, rfl⟩ := h.elim
 have h2 := rise_ext h1.is.rise k1.rise (fun s => by rw [← gv_some (D := D), ← gv_some (D := D'), ← e1, ← e2])
 have := congrArg List.length h2
 simpa using this
end
section
variable {W w w' : World} {q c t : Nat} {A : Option Addr} {k ss rb : Int} {F : List CE} {V : Nat → Value} {D : Nat → GD} {O : List Of.KE}
set_option maxHeartbeats 4000000 in
set_option maxRecDepth 100000 in
theorem kosync2_k (h : KO W w q c t A k ss rb F V D O) (s : ByteArray) (m gen now : Int) (T : List TX) (A2 : Option Addr) (c2 : Nat) (round : Bool) (hT : TpIn W A2 T) (hTl : T.length ≤ 140737488351232) (hTz : ∀ t ∈ T, t.1.size ≤ 281474976710656) :
  Calls Tryz.prog 27 #[.pointer (some ⟨q, 0, none⟩), .string s, .int .i64 m, .int .i64 gen, .slice A2 T.length c2, .bool round, .int .i64 now] w (fun e w' => ∃ A3 c3 P, P = sycP (gv F D s.data.toList) m gen T round now ∧ e = .returned (.tuple #[.slice A3 P.length c3, .int .i64 (sycE (gv F D s.data.toList) m gen T now)]) ∧ w'.ownsRow W.heap.size 34 2 (.slice A3 P.length c3) P.length (prtC P) ∧
   KK W w q t k ss rb (putSt (gv F D) s.data.toList ((gv F D s.data.toList).map (syncD m gen T round now))) F.length O w') := by
 have cf := kofind_c h.is (by have := h.few; omega) s
 cases hf : ofN F s.data.toList with
 | none =>
  have hst : gv F D s.data.toList = none := by unfold gv; rw [hf]; rfl
  rw [hf] at cf
  have HH : Hid (∀ w', Below w.heap.size w w' → KK W w q t k ss rb (putSt (gv F D) s.data.toList ((gv F D s.data.toList).map (syncD m gen T round now))) F.length O w') := Lib.hid (fun w' hb => KK.stay (f := syncD m gen T round now) h (by omega) hst hb)
  have HST := Lib.hid hst
  simp only [lookV] at cf
  clear h hf hst
  go_enter Tryz.func27, Tryz.ntmps27
  go_wp2_with fail
  with_reducible refine cf.mono ?_
  rintro en w2 ⟨rfl, hb⟩
  have HB := Lib.hid hb
  clear hb
  go_wp2_with fail
  go_ret2
  exact ⟨none, 0, [], by rw [HST.out]; rfl, by rw [HST.out]; rfl, World.ownsRow_nil _ _ _ _, HH.out _ HB.out⟩
 | some e0 =>
  have he := (ofN_mem hf).1
  obtain ⟨R, hR⟩ := (h.grp e0 he).is
  have hgq := (h.grp e0 he).q
  have hgn := hgq.gn
  have ck := fun w' (hb : Below w.heap.size w w') => ksync2_c W.heap.size e0.blk (V e0.blk) R (D e0.blk) m gen now T A2 c2 round w' (hR.later hb) hgq.bd hgq.len (Nat.le_trans h.bel.size hb.size) (fun x hx => (hgq.all x hx).1.1) (hT.below (h.bel.trans (hb.mono h.bel.size))) hTl hTz (fun hp => tp_far hT hp (fun j hj => (hR.lt j hj).1))
  rw [hf] at cf
  simp only [lookV, ceV] at cf
  have HST : Hid (gv F D s.data.toList = some (D e0.blk)) := Lib.hid (by unfold gv; rw [hf]; rfl)
  have HH := Lib.hid h
  have HE := Lib.hid (And.intro he (ofN_mem hf).2)
  clear h hf he hR hgq hgn hT
  rw [HST.out]
  show Calls _ _ _ _ (fun e w' => ∃ A3 c3 P, P = syncP m gen T round now (D e0.blk) ∧ e = .returned (.tuple #[.slice A3 (List.length P) c3, .int .i64 (syncE m gen T now (D e0.blk))]) ∧ w'.ownsRow W.heap.size 34 2 (.slice A3 P.length c3) P.length (prtC P) ∧ _)
  go_enter Tryz.func27, Tryz.ntmps27
  go_wp2_with fail
  with_reducible refine cf.mono ?_
  rintro en w2 ⟨rfl, hb⟩
  have ck2 := ck _ hb
  have HB := Lib.hid hb
  clear hb ck
  go_wp2_with fail
  with_reducible refine ck2.mono ?_
  rintro en w3 ⟨A3, c3, P, rfl, hr, hp1, hp2, v', R', b1, b2, b3⟩
  have HPP : Hid (P = syncP m gen T round now (D e0.blk)) := Lib.hid (by
   unfold syncP
   by_cases hz : syncE m gen T now (D e0.blk) = 0
   ·
    rw [if_pos hz]
    obtain ⟨i, hi, hpi⟩ := hp1 hz
    rw [hi]
    exact hpi
   ·
    rw [if_neg hz]
    exact hp2 hz)
  clear hp1 hp2
  have HC := Lib.hid (KK.call (f := syncD m gen T round now) HH.out HB.out HE.out.1 b1 ((HH.out.grp e0 HE.out.1).q.sync m gen T round now hTz) ((HH.out.grp e0 HE.out.1).n.sync m gen T round now) b2 b3 (by omega))
  have HR := Lib.hid hr
  clear ck2 b1 b2 b3 hr
  go_wp2_with fail
  go_ret2
  have := HC.out
  rw [HE.out.2] at this
  exact ⟨A3, c3, P, HPP.out, rfl, HR.out, this⟩
end
section
variable {W w w' : World} {p q t : Nat} {k ss rb : Int} {st sk : List UInt8 → Option GD} {n nk : Nat} {O OK : List Of.KE}
theorem ka_sync2 (h : PA W p q t k ss rb st sk n nk O OK w) (s : ByteArray) (m gen now : Int) (T : List TX) (A2 : Option Addr) (c2 : Nat) (round : Bool) (hT : TpIn W A2 T) (hTl : T.length ≤ 140737488351232) (hTz : ∀ t ∈ T, t.1.size ≤ 281474976710656) :
  Calls Tryz.prog 27 #[.pointer (some ⟨q, 0, none⟩), .string s, .int .i64 m, .int .i64 gen, .slice A2 T.length c2, .bool round, .int .i64 now] w (fun e w' => ∃ A c, e = .returned (.tuple #[.slice A (sycP (sk s.data.toList) m gen T round now).length c, .int .i64 (sycE (sk s.data.toList) m gen T now)]) ∧ w'.ownsRow W.heap.size 34 2 (.slice A (sycP (sk s.data.toList) m gen T round now).length c) (sycP (sk s.data.toList) m gen T round now).length (prtC (sycP (sk s.data.toList) m gen T round now)) ∧
   PA W p q t k ss rb st (putSt sk s.data.toList ((sk s.data.toList).map (syncD m gen T round now))) n nk O OK w' ∧ KB w w') := by
 obtain ⟨g, o, og, F, V, D, c, A, F', V', D', h1, k1, rfl, rfl, rfl, rfl⟩ := h.elim
 refine (kosync2_k k1 s m gen now T A2 c2 round hT hTl hTz).mono ?_
 rintro e w' ⟨A3, c3, P, rfl, he, hr, hc⟩
 exact ⟨A3, c3, he, hr, pa_kk h1 (Int.le_refl _) hc⟩
end
end Go.Proofs.YtlokhhjhckiloaaGreat
/- coord: a step of both that answers alike; both hold the same groups. No condition but that calls are not too many. -/
namespace Go.Proofs.YtlokhhjhckiloaaGreat
open Go.RowKit Go.Maps Go.ChangeMaps Go.WideMaps
set_option linter.unusedVariables false
def StS (W w0 : World) (p q t : Nat) (k ss rb : Int) (x : OC) (st : List UInt8 → Option GD) (n nk : Nat) (O OK : List Of.KE) (e : Ending) (w' : World) : Prop :=
 e = .returned (.bool true) ∧ ∃ gg, PA W p q t (k + 80) ss rb (stepSt x gg st n ss rb) (stepSk x gg st nk ss rb) n nk O OK w' ∧ KB w0 w'
section
variable {W w w' : World} {p q t : Nat} {k ss rb : Int} {st sk : List UInt8 → Option GD} {n nk : Nat} {O OK : List Of.KE}
set_option maxHeartbeats 16000000 in
set_option maxRecDepth 100000 in
theorem step1s_c (h : PA W p q t k ss rb st st n nk O OK w) (hk : 0 ≤ k ∧ k ≤ 900000) (x : OC) (hx : OCk W x) (hd : x.do_ = 1) :
  Calls Tryz.prog 10 #[.pointer (some ⟨p, 0, none⟩), .pointer (some ⟨q, 0, none⟩), .agg (ocL x).toArray] w (StS W w p q t k ss rb x st n nk O OK) := by
 have hA : Below w.heap.size w (w.alloc (.cells (ocL x).toArray 36)) := (Below.refl _ _).alloc (Nat.le_refl _) _
 have hbx := Box.new w 36 (ocL x).toArray
 obtain ⟨x0, x1, x2, x3, x4, x5, x6, x7, x8, x9, x10, xl⟩ := occ11 hbx
 have hP := h.later hA
 have cf := ka_find hP x.g
 have HX := Lib.hid hbx
 have HP := Lib.hid hP
 have HA := Lib.hid hA
 have HK := Lib.hid hk
 have HO := Lib.hid hx
 clear hA hbx hP h hk hx
 rw [hd] at x0
 go_enter Tryz.func10, Tryz.ntmps10
 go_wp2_with fail
 with_reducible refine cf.mono ?_
 rintro en w2 ⟨hb, hcase⟩
 have H2 := Lib.hid (HP.out.later hb)
 have HB2 := Lib.hid (HX.out.later hb)
 have HK2 := Lib.hid ((KB.of_below HA.out).trans (KB.of_below hb))
 clear x0 x1 x2 x3 x4 x5 x6 x7 x8 x9 x10 xl cf hb HP HX HA
 obtain ⟨x0, x1, x2, x3, x4, x5, x6, x7, x8, x9, x10, xl⟩ := occ11 HB2.out
 rw [hd] at x0
 have HD := Lib.hid hd
 clear hd
 have hK2 := HK.out.2
 rcases hcase with ⟨gb, GG, rfl, cg, hgl, hG0, hG1⟩ | rfl
 ·
  go_upto_region 3 with fail
  go_cut [43] from 29 to 43 (fun v wx => (∃ z : Bool, v = .bool z) ∧ w2 = wx)
  case first =>
   go_wp2_with fail
   all_goals
    go_meet
    exact ⟨⟨_, rfl⟩, rfl⟩
  case rest =>
   obtain ⟨⟨zb, rfl⟩, rfl⟩ := hcut
   go_upto_if 43 with fail
   go_cut [7] from 44 to 49 (fun v wx => (∃ z : Int, v = .int .i64 z) ∧ w2 = wx)
   case first =>
    cases zb
    all_goals
     go_wp2_with fail
     go_meet
     exact ⟨⟨_, rfl⟩, rfl⟩
   case rest =>
    obtain ⟨⟨z, rfl⟩, rfl⟩ := hcut
    have HFIN : Hid (∀ (w' : World), PA W p q t k ss rb (putSt st x.g.data.toList ((st x.g.data.toList).map (syncD x.m z x.P x.rnd x.now))) (putSt st x.g.data.toList ((st x.g.data.toList).map (syncD x.m z x.P x.rnd x.now))) n nk O OK w' → KB w w' → StS W w p q t k ss rb x st n nk O OK (.returned (.bool true)) w') := Lib.hid (fun w' hp hkb => ⟨rfl, z, by
     have hs1 : stepSt x z st n ss rb = (putSt st x.g.data.toList ((st x.g.data.toList).map (syncD x.m z x.P x.rnd x.now))) := by unfold stepSt; simp [HD.out]
     have hs2 : stepSk x z st nk ss rb = (putSt st x.g.data.toList ((st x.g.data.toList).map (syncD x.m z x.P x.rnd x.now))) := by unfold stepSk; simp [HD.out]
     rw [hs1, hs2]
     exact hp.bump (by omega), hkb⟩)
    have c1 := pa_sync H2.out x.g HO.out.g x.m z x.now x.P x.PA x.pc x.rnd HO.out.top HO.out.pl HO.out.pz
    go_wp2_with fail
    with_reducible refine c1.mono ?_
    rintro en w3 ⟨A2, c2', rfl, hr2, H3, hkb⟩
    have hlen := PA.sync_len H3
    obtain ⟨x0, x1, x2, x3, x4, x5, x6, x7, x8, x9, x10, xl⟩ := occ11 (hkb.op HB2.out)
    have HB3 := Lib.hid (hkb.op HB2.out)
    have HK3 := Lib.hid (HK2.out.trans hkb)
    have c2 := ka_sync2 H3 x.g x.m z x.now x.P x.PA x.pc x.rnd HO.out.top HO.out.pl HO.out.pz
    clear c1 H3 hkb cg hgl
    go_wp2_with fail
    with_reducible refine c2.mono ?_
    rintro en w4 ⟨A3, c3, rfl, hr3, H4, hkb⟩
    have hP := prt_in (hkb.row hr2 (by decide) (by decide) (by unfold kindK; decide))
    have hQ := prt_in hr3
    have HH4 := Lib.hid H4
    have HK4 := Lib.hid (HK3.out.trans hkb)
    clear H4 hkb hr2 hr3 c2
    clear x0 x1 x2 x3 x4 x5 x6 x7 x8 x9 x10 xl
    generalize sycP (st x.g.data.toList) x.m z x.P x.rnd x.now = P1 at *
    generalize sycE (st x.g.data.toList) x.m z x.P x.now = e1
    have c4 := sameP_c P1 A2 c2' A3 c3 w4 hP hQ hlen
    clear hP hQ
    go_wp2_with fail
    with_reducible refine c4.mono ?_
    rintro en w5 ⟨rfl, n4, rfl⟩
    go_wp2_with fail
    go_ret
    exact HFIN.out _ (HH4.out.later (below_drewN (Below.refl _ _) _)) (HK4.out.trans (KB.of_below (below_drewN (Below.refl _ _) _)))
 ·
  go_upto_region 3 with fail
  go_cut [43] from 29 to 43 (fun v wx => v = .bool false ∧ w2 = wx)
  case first =>
   go_wp2_with fail
   all_goals
    go_meet
    exact ⟨rfl, rfl⟩
  case rest =>
   obtain ⟨rfl, rfl⟩ := hcut
   go_upto_if 43 with fail
   go_cut [7] from 44 to 49 (fun v wx => (∃ z : Int, v = .int .i64 z) ∧ w2 = wx)
   case first =>
    go_wp2_with fail
    go_meet
    exact ⟨⟨_, rfl⟩, rfl⟩
   case rest =>
    obtain ⟨⟨z, rfl⟩, rfl⟩ := hcut
    have HFIN : Hid (∀ (w' : World), PA W p q t k ss rb (putSt st x.g.data.toList ((st x.g.data.toList).map (syncD x.m z x.P x.rnd x.now))) (putSt st x.g.data.toList ((st x.g.data.toList).map (syncD x.m z x.P x.rnd x.now))) n nk O OK w' → KB w w' → StS W w p q t k ss rb x st n nk O OK (.returned (.bool true)) w') := Lib.hid (fun w' hp hkb => ⟨rfl, z, by
     have hs1 : stepSt x z st n ss rb = (putSt st x.g.data.toList ((st x.g.data.toList).map (syncD x.m z x.P x.rnd x.now))) := by unfold stepSt; simp [HD.out]
     have hs2 : stepSk x z st nk ss rb = (putSt st x.g.data.toList ((st x.g.data.toList).map (syncD x.m z x.P x.rnd x.now))) := by unfold stepSk; simp [HD.out]
     rw [hs1, hs2]
     exact hp.bump (by omega), hkb⟩)
    have c1 := pa_sync H2.out x.g HO.out.g x.m z x.now x.P x.PA x.pc x.rnd HO.out.top HO.out.pl HO.out.pz
    go_wp2_with fail
    with_reducible refine c1.mono ?_
    rintro en w3 ⟨A2, c2', rfl, hr2, H3, hkb⟩
    have hlen := PA.sync_len H3
    obtain ⟨x0, x1, x2, x3, x4, x5, x6, x7, x8, x9, x10, xl⟩ := occ11 (hkb.op HB2.out)
    have HB3 := Lib.hid (hkb.op HB2.out)
    have HK3 := Lib.hid (HK2.out.trans hkb)
    have c2 := ka_sync2 H3 x.g x.m z x.now x.P x.PA x.pc x.rnd HO.out.top HO.out.pl HO.out.pz
    clear c1 H3 hkb
    go_wp2_with fail
    with_reducible refine c2.mono ?_
    rintro en w4 ⟨A3, c3, rfl, hr3, H4, hkb⟩
    have hP := prt_in (hkb.row hr2 (by decide) (by decide) (by unfold kindK; decide))
    have hQ := prt_in hr3
    have HH4 := Lib.hid H4
    have HK4 := Lib.hid (HK3.out.trans hkb)
    clear H4 hkb hr2 hr3 c2
    clear x0 x1 x2 x3 x4 x5 x6 x7 x8 x9 x10 xl
    generalize sycP (st x.g.data.toList) x.m z x.P x.rnd x.now = P1 at *
    generalize sycE (st x.g.data.toList) x.m z x.P x.now = e1
    have c4 := sameP_c P1 A2 c2' A3 c3 w4 hP hQ hlen
    clear hP hQ
    go_wp2_with fail
    with_reducible refine c4.mono ?_
    rintro en w5 ⟨rfl, n4, rfl⟩
    go_wp2_with fail
    go_ret
    exact HFIN.out _ (HH4.out.later (below_drewN (Below.refl _ _) _)) (HK4.out.trans (KB.of_below (below_drewN (Below.refl _ _) _)))
/-- A step: both answer alike, and stay alike. -/
theorem step_same_c (h : PA W p q t k ss rb st st n n O O w) (hg : GIs st) (hk : 0 ≤ k ∧ k ≤ 900000) (x : OC) (hx : OCk W x) :
  Calls Tryz.prog 10 #[.pointer (some ⟨p, 0, none⟩), .pointer (some ⟨q, 0, none⟩), .agg (ocL x).toArray] w (fun e w' => e = .returned (.bool true) ∧ ∃ st' n' O', GIs st' ∧ PA W p q t (k + 80) ss rb st' st' n' n' O' O' w' ∧ KB w w') := by
 by_cases h1 : x.do_ = 1
 ·
  refine (step1s_c h hk x hx h1).mono ?_
  rintro e w' ⟨rfl, gg, hp, hkb⟩
  rw [step_same hg] at hp
  exact ⟨rfl, _, _, _, hg.step x gg n ss rb, hp, hkb⟩
 ·
  refine (step17_c h hk x hx).mono ?_
  rintro e w' ⟨b, c, gg, n', nk', rfl, hb, _, hp, hkb⟩
  rw [step_same hg] at hp
  have hn := hp.len_eq
  subst hn
  exact ⟨by rw [hb (stepQ_same hg x gg n ss rb O h1)], _, _, _, hg.step x gg n ss rb, hp, hkb⟩
theorem nms_of {F H : List CE} (h : F.map CE.name = H.map CE.name) : F.map nmA = H.map nmA := by
 have key : ∀ L : List CE, L.map nmA = (L.map CE.name).map (fun n => (⟨n.toArray⟩ : ByteArray)) := fun L => by rw [List.map_map]; rfl
 rw [key, key, h]
theorem nms_str (F : List CE) : nmsV F = strC (F.map nmA) := by unfold nmsV strC; rw [List.map_map]; rfl
set_option maxHeartbeats 16000000 in
set_option maxRecDepth 100000 in
theorem holds_c (h : PA W p q t k ss rb st st n n O O w) :
  Calls Tryz.prog 11 #[.pointer (some ⟨p, 0, none⟩), .pointer (some ⟨q, 0, none⟩)] w (fun e w' => e = .returned (.bool true) ∧ Below w.heap.size w w') := by
 have hx := h.1
 obtain ⟨g, o, og, F, V, D, c, A, F', V', D', h1, k1, e1, e2, hn1, hn2⟩ := h.elim
 have hnm := rise_ext h1.is.rise k1.rise (fun s => by rw [← gv_some (D := D), ← gv_some (D := D'), ← e1, ← e2])
 have hN := nms_of hnm
 have hlen : F.length = F'.length := hn1.symm.trans hn2
 have hf20 := h1.few
 have cn := cnames_c w h1.is h1.nm (by omega)
 have ckn := fun w' (hb : Below w.heap.size w w') => konames_c (k1.later hb).is (by omega : F'.length ≤ 20)
 have HX := Lib.hid hx
 have HK := Lib.hid k1
 have HE := Lib.hid e2
 have HNM := Lib.hid hN
 have HLEN := Lib.hid (And.intro hlen hf20)
 have HNAMES := Lib.hid h1.nm
 clear h hx h1 k1 e1 e2 hn1 hn2 hnm hN hlen
 go_enter Tryz.func11, Tryz.ntmps11
 go_wp2_with fail
 with_reducible refine cn.mono ?_
 rintro e w1 ⟨v1, rfl, hr1, hb1⟩
 have ckn1 := ckn w1 hb1
 have HB1 := Lib.hid hb1
 obtain ⟨A1, c1, rfl⟩ := own_slice hr1
 have HR1 := Lib.hid hr1
 clear cn ckn hr1 hb1
 go_wp2_with fail
 with_reducible refine ckn1.mono ?_
 rintro e w2 ⟨v2, rfl, hr2, hb2⟩
 obtain ⟨A2, c2, rfl⟩ := own_slice hr2
 have hr1 := own_below HR1.out hb2
 rw [nms_str] at hr1 hr2
 have hl1 : F.length = (F.map nmA).length := (List.length_map _).symm
 have hl2 : F'.length = (F'.map nmA).length := (List.length_map _).symm
 obtain ⟨es1, st1⟩ := str_in hr1 hl1
 obtain ⟨es2, st2⟩ := str_in hr2 hl2
 rw [← HNM.out] at es2 st2
 have cs := sameS_c (F.map nmA) (slA (Value.slice A1 F.length c1)).1 (slA (Value.slice A1 F.length c1)).2 (slA (Value.slice A2 F'.length c2)).1 (slA (Value.slice A2 F'.length c2)).2 w2 st1 st2 (by rw [← hl1]; have := HLEN.out.2; omega)
 rw [← es1, ← es2] at cs
 have HB2 := Lib.hid (HB1.out.trans (hb2.mono HB1.out.size))
 have HR2 := Lib.hid hr1
 clear ckn1 hr1 hr2 hb2 es1 es2 st1 st2 hl1 hl2
 go_wp2_with fail
 with_reducible refine cs.mono ?_
 rintro e w3 ⟨rfl, n3, rfl⟩
 have HB3 := Lib.hid (below_drewN HB2.out n3)
 have HR3 := Lib.hid (own_below HR2.out (below_drewN (Below.refl _ w2) n3))
 generalize w2.drewN n3 = w3 at *
 clear cs
 go_wp2_with fail
 clear hf20
 go_loopw [6] (fun i wr => ∃ j : Nat, i = .int .i64 j ∧ j ≤ F.length ∧ Below w3.heap.size w3 wr) (fun i _ => F.length - (intOf i).toNat)
 case atStart => exact ⟨0, rfl, Nat.zero_le _, Below.refl _ _⟩
 case round =>
  obtain ⟨j, rfl, hj, hbr⟩ := hrel
  have hBW : Below w.heap.size w wr := HB3.out.trans (hbr.mono HB3.out.size)
  have HBW := Lib.hid hBW
  have HBR := Lib.hid hbr
  by_cases hjl : j < F.length
  ·
   obtain ⟨e', he'⟩ : ∃ e', F'[j]? = some e' := ⟨_, List.getElem?_eq_getElem (by rw [← HLEN.out.1]; exact hjl)⟩
   have hrr := own_below HR3.out hbr
   obtain ⟨g1, eg1, hgl1, _, hc1, hx1⟩ := own_in hrr (by omega)
   subst eg1
   have hu : (F.map nmA)[j]? = some (nmA e') := by rw [HNM.out, List.getElem?_map, he']; rfl
   have y0 := hx1 j (.string (nmA e')) (by unfold strC; rw [List.getElem?_map, hu]; rfl)
   have hK := HK.out.later hBW
   obtain ⟨r, hA, hrl, q0, q1⟩ := hK.is.at_ he'
   obtain ⟨d0, d1, d2, d3, dl⟩ := hK.is.cells
   rw [hA] at d2
   have hmem := List.mem_of_getElem? he'
   obtain ⟨RK, hRK⟩ := (HK.out.grp e' hmem).is
   have hGQ := (HK.out.grp e' hmem).q
   have hst : st (nmA e').data.toList = some (D' e'.blk) := by
    rw [HE.out, nmA_list]
    unfold gv
    rw [ofN_some HK.out.rise hmem]
    rfl
   have cg := group_x (HX.out.later (hBW.trans (Below.refl _ _).drew)) (nmA e') (by
    show (nmA e').data.size ≤ maxLen
    rw [← Array.length_toList, nmA_list]
    have := HK.out.nm e' hmem
    unfold maxLen
    omega)
   rw [hst] at cg
   simp only [Option.getD_some] at cg
   have C2 : Hid (∀ (w5 : World) (v5 : Value) (R5 : List MV), Below wr.drew.heap.size wr.drew w5 → w5.ownsRow wr.drew.heap.size 95 5 v5 R5.length (mvR R5) → (∀ x ∈ R5, MvOk w5 wr.drew.heap.size x) → R5.map MV.d = (D' e'.blk).L → Calls Tryz.prog 38 #[.agg #[.int .i64 (D' e'.blk).ph, .int .i64 (D' e'.blk).gn, .int .i64 (D' e'.blk).nx, .int .i64 (D' e'.blk).un, v5], .pointer (some ⟨e'.blk, 0, none⟩)] w5 (fun e w' => e = .returned (.bool true) ∧ Below w5.heap.size w5 w')) := Lib.hid (fun w5 v5 R5 hb hr hm ha => sameV_c hr hm ha (hRK.later (hBW.trans (((Below.refl wr.heap.size wr).drew.trans hb).mono hBW.size))) hGQ.len hGQ.all)
   have HS : Hid (∀ w', Below wr.drew.heap.size wr.drew w' → w'.cell? ⟨g1, j, none⟩ = some (.string (nmA e')) ∧ w'.cell? ⟨q, 2, none⟩ = some (.slice (some ⟨r, 0, none⟩) F'.length c) ∧ w'.cell? ⟨r, j * 2 + 1, none⟩ = some (.pointer (some ⟨e'.blk, 0, none⟩))) := Lib.hid (fun w' hb => ⟨(hb.cell (p := ⟨g1, j, none⟩) hgl1).trans y0, (hb.cell (p := ⟨q, 2, none⟩) dl).trans d2, (hb.cell (p := ⟨r, j * 2 + 1, none⟩) hrl).trans q1⟩)
   have HS0 := Lib.hid (HS.out wr.drew (Below.refl _ _))
   have hlb : F.length ≤ 20 := HLEN.out.2
   have hji : (j : Int) < (F.length : Int) := by omega
   have hji2 : (j : Int) < (F'.length : Int) := by have := HLEN.out.1; omega
   have hj0 : (0 : Int) ≤ (j : Int) := by omega
   clear hbr hBW hrr hx1 hu hK hA q0 d0 d1 d3 hmem hRK hGQ hst he' hc1
   generalize D' e'.blk = G at *
   generalize nmA e' = un at *
   go_wp2_with fail
   go_region_held3 (fun wq => wq.cell? ⟨g1, j, none⟩ = some (.string un) ∧ wq.cell? ⟨q, 2, none⟩ = some (.slice (some ⟨r, 0, none⟩) F'.length c) ∧ wq.cell? ⟨r, j * 2 + 1, none⟩ = some (.pointer (some ⟨e'.blk, 0, none⟩)))
    (first | exact HS0.out | exact HS.out _ (by assumption) | exact HS.out _ (Below.trans (by assumption) (Below.mono (by assumption) (by assumption))))
    (first | ((with_reducible refine cg.mono ?_); rintro e w5 ⟨v5, R5, rfl, hr5, hm5, ha5, hb5⟩; have hz5 := hb5.size) | ((with_reducible refine (C2.out _ _ _ hb5 hr5 hm5 ha5).mono ?_); rintro e w6 ⟨rfl, hb6⟩))
   all_goals
    have HB6 := Lib.hid (HBR.out.trans (((Below.refl wr.heap.size wr).drew.trans (hb5.trans (hb6.mono hb5.size))).mono HBR.out.size))
    clear hb6 hb5 hr5 hm5 ha5 cg C2
    go_wp2_with fail
    go_roundw
    case rel => exact ⟨j + 1, by go_num, hjl, HB6.out⟩
    case measure => simp [intOf]; omega
  ·
   have hji : ¬ (j : Int) < (F.length : Int) := by omega
   clear hbr hBW
   go_wp2_with fail
   go_ret
   exact ⟨rfl, HBW.out⟩
end
end Go.Proofs.YtlokhhjhckiloaaGreat
/- coord: an argument that is a list of calls. No condition. -/
namespace Go.Proofs.YtlokhhjhckiloaaGreat
open Go.RowKit Go.WideShapes Go.ChangeShapes Go.Deep
set_option linter.unusedVariables false
section
variable {H : Type} {enc : TypeId × Value → H} {w : World} {base : Nat} {sp : Nat → Bool} {held : Bool}
def OcsIn (w : World) (A : Option Addr) (L : List OC) : Prop :=
  0 < L.length → ∃ b off, A = some ⟨b, off, none⟩ ∧ b < w.heap.size ∧ ∀ j x, L[j]? = some x → (∀ i, i < 11 → w.cell? ⟨b, off + j * 11 + i, none⟩ = (ocL x)[i]?) ∧ OCk w x
theorem OcsIn.at_ {w w' : World} {A : Option Addr} {L : List OC} (h : OcsIn w A L) (hb : Below w.heap.size w w') {k : Nat} {x : OC} (hk : L[k]? = some x) : ∃ b off, A = some ⟨b, off, none⟩ ∧ b < w'.heap.size ∧ (∀ i, i < 11 → w'.cell? ⟨b, off + k * 11 + i, none⟩ = (ocL x)[i]?) ∧ OCk w' x := by
  obtain ⟨b, off, hA, hl, hc⟩ := h (by have := (List.getElem?_eq_some_iff.1 hk).1; omega)
  obtain ⟨h0, h1⟩ := hc k x hk
  exact ⟨b, off, hA, Nat.lt_of_lt_of_le hl hb.size, fun i hi => (hb.cell (p := ⟨b, off + k * 11 + i, none⟩) hl).trans (h0 i hi), h1.later hb⟩
set_option maxRecDepth 100000 in
theorem open_cops {r : Reach} {b0 : Nat} {v : Value} {d : DataW H} {p : List MemPlace} (hv : Value.okWide Tryz.prog w r b0 22 v) (hh : DataW.Trod enc Tryz.prog w base sp held 22 v d p) (hw : Weighs Tryz.prog 22 d) :
    ∃ (A : Option Addr) (c : Nat) (L : List OC), v = .slice A L.length c ∧ OcsIn w A L := by
  obtain ⟨n, h⟩ := hh
  obtain ⟨A0, len0, cap0, rfl⟩ := okWide_slice Tryz.underlying22 hv
  rcases open_slice Tryz.underlying22 h with ⟨hcs, _⟩ | ⟨a, len, cap, m, n', D, Pl, hcs, _, hlc, _, hm, hx, hi⟩
  · have : Value.slice A0 len0 cap0 = .slice none 0 0 := by simpa [Value.cells] using hcs
    exact ⟨none, 0, [], this, fun hp => by simp at hp⟩
  · have hxv : Value.slice A0 len0 cap0 = .slice (some a) len cap := by simpa [Value.cells] using hcs
    have hlm : len ≤ m := by rw [hm]; split <;> omega
    have hD : d = .slice ((List.range len).map D) ((List.range (m - len)).map fun j => D (len + j)) := by simpa using congrArg Prod.fst hx
    rw [hD] at hw
    have key : ∀ i, i < len → ∃ x : OC, (∀ k, k < 11 → w.cell? ((a.add (i * 11)).add k) = (ocL x)[k]?) ∧ OCk w x := by
      intro i hil
      obtain ⟨cs', hc, ht'⟩ := hi i (by omega)
      rw [show Tryz.prog.cellsOf 36 = 11 by kernel_rfl] at hc
      obtain ⟨_, hcl2, hat⟩ := World.cells?_some hc
      have hwe : Weighs Tryz.prog 36 (D i) := weighs_elem Tryz.underlying22 hw (i := i) (by simp [hil])
      obtain ⟨x, rfl, hok⟩ := oc_of hcl2 ht' hwe
      exact ⟨x, fun k hk => hat k hk, hok⟩
    have hex : ∃ F : Nat → OC, ∀ i, i < len → (∀ k, k < 11 → w.cell? ((a.add (i * 11)).add k) = (ocL (F i))[k]?) ∧ OCk w (F i) := by
      classical
      refine ⟨fun i => if h : i < len then Classical.choose (key i h) else default, fun i hil => ?_⟩
      simp only [dif_pos hil]
      exact Classical.choose_spec (key i hil)
    obtain ⟨F, hF⟩ := hex
    refine ⟨some a, cap, (List.range len).map F, by simp [hxv], fun hp => ?_⟩
    have hp' : 0 < len := by simpa using hp
    obtain ⟨b, off, rfl, hb⟩ := addr_plain (w := w) (a := a) (v := .int .i64 (F 0).do_) (by
      have h0 := (hF 0 hp').1 0 (by decide)
      rw [Nat.zero_mul] at h0
      have e : ∀ a : Addr, a.add 0 = a := fun a => by unfold Addr.add; rfl
      rw [e, e] at h0
      rw [e]
      exact h0)
    refine ⟨b, off, rfl, hb, fun j o hj => ?_⟩
    obtain ⟨hj1, hj2⟩ := List.getElem?_eq_some_iff.1 hj
    have hj' : j < len := by simpa using hj1
    have : F j = o := by simpa using hj2
    subst this
    obtain ⟨h0, h1⟩ := hF j hj'
    simp only [add_at] at h0
    exact ⟨h0, h1⟩
end
end Go.Proofs.YtlokhhjhckiloaaGreat
/- coord: the law CoordScripts walks to true. No condition. -/
namespace Go.Proofs.YtlokhhjhckiloaaGreat
open Go.RowKit Go.Maps Go.ChangeMaps Go.WideMaps
set_option linter.unusedVariables false
def smallC (x : OC) : Bool := decide (x.T.length ≤ 30) && decide (x.P.length ≤ 30)
set_option maxRecDepth 100000 in
theorem smallc_c (x : OC) (W : World) : Calls Tryz.prog 9 #[.agg (ocL x).toArray] W (fun e w' => e = .returned (.bool (smallC x)) ∧ Below W.heap.size W w') := by
 have hB : Below W.heap.size W (W.alloc (.cells (ocL x).toArray 36)) := (Below.refl _ _).alloc (Nat.le_refl _) _
 obtain ⟨x0, x1, x2, x3, x4, x5, x6, x7, x8, x9, x10, xl⟩ := occ11 (Box.new W 36 (ocL x).toArray)
 have HB := Lib.hid hB
 clear hB
 unfold smallC
 by_cases h : x.T.length ≤ 30
 ·
  rw [decide_eq_true h]
  have hi : (x.T.length : Int) ≤ 30 := by omega
  by_cases h2 : x.P.length ≤ 30
  ·
   rw [decide_eq_true h2]
   have hi2 : (x.P.length : Int) ≤ 30 := by omega
   go_enter Tryz.func9, Tryz.ntmps9
   go_wp2_with fail
   go_ret
   exact ⟨rfl, HB.out⟩
  ·
   rw [decide_eq_false h2]
   have hi2 : ¬ (x.P.length : Int) ≤ 30 := by omega
   go_enter Tryz.func9, Tryz.ntmps9
   go_wp2_with fail
   go_ret
   exact ⟨rfl, HB.out⟩
 ·
  rw [decide_eq_false h]
  have hi : ¬ (x.T.length : Int) ≤ 30 := by omega
  go_enter Tryz.func9, Tryz.ntmps9
  go_wp2_with fail
  go_ret
  exact ⟨rfl, HB.out⟩
set_option maxHeartbeats 32000000 in
set_option maxRecDepth 100000 in
theorem coordScripts_walk (s r : Int) (A : Option Addr) (c : Nat) (L : List OC) (W : World) (_h0 : (Lit.int .i64 s).wf = true) (_h1 : (Lit.int .i64 r).wf = true) (hL : OcsIn W A L) : Calls Tryz.prog 3 #[.int .i64 s, .int .i64 r, .slice A L.length c] W (Good W (.bool true)) := by
 have HL := Lib.hid hL
 clear hL _h0 _h1
 cases hin : (witB s 1 100000 && witB r 1 100000) with
 | false =>
  have cn := cnew_no s r hin W
  have hbad : (s < 1 ∨ (¬ s < 1 ∧ 100000 < s)) ∨ ((¬ s < 1 ∧ ¬ 100000 < s) ∧ (r < 1 ∨ (¬ r < 1 ∧ 100000 < r))) := by
   unfold witB at hin
   simp only [Bool.and_eq_false_iff, decide_eq_false_iff_not] at hin
   omega
  clear hin
  rcases hbad with (hb1 | ⟨hb1, hb2⟩) | ⟨⟨hb1, hb2⟩, hb3 | ⟨hb3, hb4⟩⟩
  all_goals
   go_enter Tryz.func3, Tryz.ntmps3
   go_wp2_with fail
   with_reducible refine cn.mono ?_
   rintro e w1 ⟨rfl, rfl⟩
   go_wp2_with fail
   with_reducible refine (live17_c _).mono ?_
   rintro e w2 ⟨rfl, hbl⟩
   go_wp2_with fail
   go_ret
   exact ⟨rfl, hbl⟩
 | true =>
  have hb : (1 ≤ s ∧ s ≤ 100000) ∧ 1 ≤ r ∧ r ≤ 100000 := by
   unfold witB at hin
   simp only [Bool.and_eq_true, decide_eq_true_eq] at hin
   exact hin
  have cn := cnew_ok s r hb.1 hb.2 W W (Below.refl _ _)
  have ckn := fun w (hbw : Below W.heap.size W w) => konew_k W w s r hb.1 hb.2 hbw
  have b1 : ¬ s < 1 := by omega
  have b2 : ¬ 100000 < s := by omega
  have b3 : ¬ r < 1 := by omega
  have b4 : ¬ 100000 < r := by omega
  go_enter Tryz.func3, Tryz.ntmps3
  go_wp2_with fail
  with_reducible refine cn.mono ?_
  rintro e w1 ⟨p, rfl, hC⟩
  have ckn1 := ckn w1 hC.bel
  have HC := Lib.hid hC
  clear cn ckn hC hin
  go_wp2_with fail
  with_reducible refine ckn1.mono ?_
  rintro e w2 ⟨hb2, q, t, rfl, hK⟩
  have H2 : Hid (PA W p q t 0 s r (fun _ => none) (fun _ => none) 0 0 [] [] w2) := Lib.hid ⟨HC.out.later hb2, 0, none, [], _, _, hK, fun _ => rfl, rfl⟩
  clear ckn1 hb2 hK HC b1 b2 b3 b4
  have cs := fun (x : OC) w => (show Calls Tryz.prog 9 #[.agg #[.int .i64 x.do_, .string x.g, .int .i64 x.m, .slice x.TA x.T.length x.tc, .int .i64 x.gen, .slice x.PA x.P.length x.pc, .bool x.rnd, .string x.pt, .int .i64 x.pi, .int .i64 x.at_, .int .i64 x.now]] w (fun e w' => e = .returned (.bool (smallC x)) ∧ Below w.heap.size w w') from smallc_c x w)
  go_wp2_with fail
  go_loopw [10] (fun j wr => ∃ (k : Nat) (cc : Int) (st : List UInt8 → Option GD) (n : Nat) (O : List Of.KE), j = .int .i64 k ∧ k ≤ 50 ∧ k ≤ L.length ∧ 0 ≤ cc ∧ cc ≤ 80 * k ∧ GIs st ∧ PA W p q t cc s r st st n n O O wr) (fun j _ => 50 - (intOf j).toNat)
  case atStart => exact ⟨0, 0, _, _, _, rfl, by omega, by omega, by omega, by omega, GIs.none, H2.out⟩
  case round =>
   obtain ⟨k, cc, st, n, O, rfl, hk50, hkL, hcc0, hcc, hGI, hP⟩ := hrel
   clear H2
   by_cases hk : k < L.length ∧ k < 50
   ·
    obtain ⟨hk1, hk2⟩ := hk
    obtain ⟨x, hx⟩ : ∃ x, L[k]? = some x := ⟨_, List.getElem?_eq_getElem hk1⟩
    obtain ⟨b, off, rfl, hbl, hc, _⟩ := HL.out.at_ hP.bel hx
    have hok : OCk W x := (HL.out.at_ (Below.refl _ _) hx).choose_spec.choose_spec.2.2.2
    have z0 := hc 0 (by decide)
    have z1 := hc 1 (by decide)
    have z2 := hc 2 (by decide)
    have z3 := hc 3 (by decide)
    have z4 := hc 4 (by decide)
    have z5 := hc 5 (by decide)
    have z6 := hc 6 (by decide)
    have z7 := hc 7 (by decide)
    have z8 := hc 8 (by decide)
    have z9 := hc 9 (by decide)
    have z10 := hc 10 (by decide)
    simp only [ocL, List.getElem?_cons_zero, List.getElem?_cons_succ, Nat.add_zero] at z0 z1 z2 z3 z4 z5 z6 z7 z8 z9 z10
    have HOK := Lib.hid hok
    have HP := Lib.hid hP
    have HGI := Lib.hid hGI
    have HZ := Lib.hid (And.intro hbl (And.intro z0 (And.intro z1 (And.intro z2 (And.intro z3 (And.intro z4 (And.intro z5 (And.intro z6 (And.intro z7 (And.intro z8 (And.intro z9 z10)))))))))))
    clear hP hc hok hx hGI
    have hki : (k : Int) < (L.length : Int) := by omega
    have hk0 : (0 : Int) ≤ (k : Int) := by omega
    have hki2 : (k : Int) < 50 := by omega
    go_wp2_with fail
    with_reducible refine (cs x _).mono ?_
    rintro e w3 ⟨rfl, hb3⟩
    have HB3 := Lib.hid hb3
    clear hb3 z0 z1 z2 z3 z4 z5 z6 z7 z8 z9 z10 hbl
    cases hsm : smallC x with
    | false =>
     have HBx := Lib.hid (HP.out.later HB3.out).bel
     go_wp2_with fail
     with_reducible refine (live17_c _).mono ?_
     rintro e w4 ⟨rfl, hb4⟩
     go_wp2_with fail
     go_ret
     exact ⟨rfl, HBx.out.trans (hb4.mono HBx.out.size)⟩
    | true =>
     obtain ⟨hbl, z0, z1, z2, z3, z4, z5, z6, z7, z8, z9, z10⟩ := HZ.out
     have hb9 := HB3.out
     replace z0 := (hb9.cell (p := ⟨b, off + k * 11, none⟩) hbl).trans z0
     replace z1 := (hb9.cell (p := ⟨b, off + k * 11 + 1, none⟩) hbl).trans z1
     replace z2 := (hb9.cell (p := ⟨b, off + k * 11 + 2, none⟩) hbl).trans z2
     replace z3 := (hb9.cell (p := ⟨b, off + k * 11 + 3, none⟩) hbl).trans z3
     replace z4 := (hb9.cell (p := ⟨b, off + k * 11 + 4, none⟩) hbl).trans z4
     replace z5 := (hb9.cell (p := ⟨b, off + k * 11 + 5, none⟩) hbl).trans z5
     replace z6 := (hb9.cell (p := ⟨b, off + k * 11 + 6, none⟩) hbl).trans z6
     replace z7 := (hb9.cell (p := ⟨b, off + k * 11 + 7, none⟩) hbl).trans z7
     replace z8 := (hb9.cell (p := ⟨b, off + k * 11 + 8, none⟩) hbl).trans z8
     replace z9 := (hb9.cell (p := ⟨b, off + k * 11 + 9, none⟩) hbl).trans z9
     replace z10 := (hb9.cell (p := ⟨b, off + k * 11 + 10, none⟩) hbl).trans z10
     have hbl3 : b < w3.heap.size := Nat.lt_of_lt_of_le hbl hb9.size
     have cst : Calls Tryz.prog 10 #[.pointer (some ⟨p, 0, none⟩), .pointer (some ⟨q, 0, none⟩), .agg #[.int .i64 x.do_, .string x.g, .int .i64 x.m, .slice x.TA x.T.length x.tc, .int .i64 x.gen, .slice x.PA x.P.length x.pc, .bool x.rnd, .string x.pt, .int .i64 x.pi, .int .i64 x.at_, .int .i64 x.now]] w3 (fun e w' => e = .returned (.bool true) ∧ ∃ st' n' O', GIs st' ∧ PA W p q t (cc + 80) s r st' st' n' n' O' O' w' ∧ KB w3 w') := step_same_c (HP.out.later HB3.out) HGI.out ⟨hcc0, by omega⟩ x HOK.out
     clear hsm hb9 hbl
     go_wp2_with fail
     with_reducible refine cst.mono ?_
     rintro e w5 ⟨rfl, st', n', O', hG5, hP5, _⟩
     have ch := holds_c hP5
     have HG5 := Lib.hid hG5
     have HP5 := Lib.hid hP5
     clear cst hG5 hP5 z0 z1 z2 z3 z4 z5 z6 z7 z8 z9 z10 hbl3 HP HGI HZ HB3
     go_wp2_with fail
     with_reducible refine ch.mono ?_
     rintro e w6 ⟨rfl, hb6⟩
     have H6 := Lib.hid (HP5.out.later hb6)
     clear ch hb6
     go_wp2_with fail
     go_roundw
     case rel => exact ⟨k + 1, cc + 80, st', n', O', by go_num, by omega, by omega, by omega, by omega, HG5.out, H6.out⟩
     case measure => simp [intOf]; omega
   ·
    have hkk : ¬ ((k : Int) < (L.length : Int)) ∨ ((k : Int) < (L.length : Int)) ∧ ¬ ((k : Int) < 50) := by omega
    have HBx := Lib.hid hP.bel
    clear hP hk hGI
    rcases hkk with hkk | ⟨hk1, hkk⟩
    all_goals
     go_wp2_with fail
     with_reducible refine (live17_c _).mono ?_
     rintro e w4 ⟨rfl, hb4⟩
     go_wp2_with fail
     go_ret
     exact ⟨rfl, HBx.out.trans (hb4.mono HBx.out.size)⟩
end Go.Proofs.YtlokhhjhckiloaaGreat
