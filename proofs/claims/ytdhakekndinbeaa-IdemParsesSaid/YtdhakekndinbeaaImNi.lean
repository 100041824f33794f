/- idem: the law IdemNil walks to true; the document's Epoch. No condition. -/
import Derived.Test.YtdhakekndinbeaaImRc
namespace Go.Proofs.Ytdhakekndinbeaa
open Go.RowKit
set_option linter.unusedVariables false
theorem chk_nobody (b : BN) : ∃ e, chkG [] b = (0, false, e) := by
  unfold chkG
  split
  · exact ⟨0, rfl⟩
  · split
    · show ∃ e, chkGO none b = _
      unfold chkGO
      simp only
      split
      · exact ⟨0, rfl⟩
      · exact ⟨9, rfl⟩
    · exact ⟨1, rfl⟩
theorem pa_one : paE ⟨#[1]⟩ = 3 := by decide
theorem pr_none : (⟨(printL []).toArray⟩ : ByteArray) = ⟨#[0]⟩ := by decide
set_option maxHeartbeats 16000000 in
set_option maxRecDepth 100000 in
theorem idemNil_walk (b : BN) (n : Nat) (A : Option Addr) (c : Nat) (W : World) (k0 : True) (m0 : True) : Calls Try.prog 6 #[.agg #[.int .i64 b.base, .int .i64 b.span, .int .i64 b.prod, .int .i64 b.epoch, .int .i64 b.seq, .slice A n c]] W (Yes W) := by
  obtain ⟨e, he⟩ := chk_nobody b
  have cl := fun w => live_c w
  unfold Yes at cl
  have hB : Below W.heap.size W (W.alloc (.cells #[.int .i64 b.base, .int .i64 b.span, .int .i64 b.prod, .int .i64 b.epoch, .int .i64 b.seq, .slice A n c] 31)) := (Below.refl _ _).alloc (Nat.le_refl _) _
  have HB := Lib.hid hB
  have HX := Lib.hid (Box.new W 31 #[.int .i64 b.base, .int .i64 b.span, .int .i64 b.prod, .int .i64 b.epoch, .int .i64 b.seq, .slice A n c])
  have cp := parse_po (W := W) ⟨#[1]⟩ hB (by decide)
  unfold GotPO at cp
  rw [pa_one] at cp
  have cnn := fun w => note_nil b A n c w
  have cck := fun w => check_nil b A n c w
  rw [chk_abs] at cck
  rw [show absF [] = [] from rfl, he] at cck
  have crk := fun w p (h : RpIs w 0 p [] none 0) => rcheck_c [] none 0 0 p b A n c w h (by decide) GOk.nil
  rw [show ([] : List RK).map (·.1) = [] from rfl, he] at crk
  have cen := fun w => epoch_nil b.prod w
  have cpn := fun w => print_nil w
  rw [pr_none] at cpn
  unfold bnV bnC at cnn cck
  unfold chkT chkV at cck crk
  simp only at cck crk
  clear he hB k0 m0
  go_enter Try.func6, Try.ntmps6
  go_wp2_with fail
  with_reducible refine cp.mono ?_
  rintro en w1 (⟨_, rfl, hb1⟩ | ⟨h, _⟩)
  case inr => exact absurd h (by decide)
  have HB1 := Lib.hid (HB.out.trans (hb1.mono HB.out.size))
  have HX1 := Lib.hid (HX.out.later hb1)
  clear hb1 cp HX HB
  obtain ⟨z0, z1, z2, z3, z4, z5⟩ := bx5 HX1.out
  go_wp2_with fail
  with_reducible refine (cnn _).mono ?_
  rintro en w2 ⟨rfl, hb2⟩
  have HB2 := Lib.hid (HB1.out.trans (hb2.mono HB1.out.size))
  have HX2 := Lib.hid (HX1.out.later hb2)
  clear hb2 HX1 HB1 z0 z1 z2 z3 z4 z5
  obtain ⟨z0, z1, z2, z3, z4, z5⟩ := bx5 HX2.out
  go_wp2_with fail
  with_reducible refine (cck _).mono ?_
  rintro en w3 ⟨rfl, hb3⟩
  have hk : Below w3.heap.size w3 (w3.alloc (.cells #[.slice none 0 0] 28)) := (Below.refl _ _).alloc (Nat.le_refl _) _
  have HB3 := Lib.hid (HB2.out.trans ((hb3.trans (hk.mono hb3.size)).mono HB2.out.size))
  have HX3 := Lib.hid ((HX2.out.later hb3).later hk)
  have HR3 : Hid (RpIs (w3.alloc (.cells #[.slice none 0 0] 28)) 0 w3.heap.size [] none 0) := Lib.hid ⟨Box.new _ _ _, World.ownsRow_nil _ _ _ _, fun x hx => by cases hx⟩
  have hqlt := (HX2.out.later hb3).lt
  clear hb3 HX2 HB2 z0 z1 z2 z3 z4 z5
  obtain ⟨z0, z1, z2, z3, z4, z5⟩ := bx5 HX3.out
  go_wp2_with fail
  with_reducible refine (crk _ _ HR3.out).mono ?_
  rintro en w4 ⟨rfl, hb4⟩
  have HB4 := Lib.hid (HB3.out.trans (hb4.mono HB3.out.size))
  have HX4 := Lib.hid (HX3.out.later hb4)
  clear hb4 HX3 HB3 HR3 z0 z1 z2 z3 z4 z5
  obtain ⟨z0, z1, z2, z3, z4, z5⟩ := bx5 HX4.out
  have hee : (e == e) = true := beq_self_eq_true e
  go_wp2_with fail
  with_reducible refine (cen _).mono ?_
  rintro en w5 ⟨rfl, hb5⟩
  have HB5 := Lib.hid (HB4.out.trans (hb5.mono HB4.out.size))
  clear hb5 HX4 HB4 z0 z1 z2 z3 z4 z5
  go_wp2_with fail
  with_reducible refine (cpn _).mono ?_
  rintro en w6 ⟨rfl, hb6⟩
  have HB6 := Lib.hid (HB5.out.trans (hb6.mono HB5.out.size))
  clear hb6 HB5
  go_wp2_with fail
  with_reducible refine (cl _).mono ?_
  rintro en w7 ⟨rfl, hb7⟩
  have HB7 := Lib.hid (HB6.out.trans (hb7.mono HB6.out.size))
  clear hb7 HB6
  go_wp2_with fail
  go_ret
  exact ⟨rfl, HB7.out⟩
set_option maxHeartbeats 4000000 in
set_option maxRecDepth 100000 in
theorem repoch_c (K : List RK) (A : Option Addr) (c base p : Nat) (n : Int) (W : World) (h : RpIs W base p K A c) (hl : K.length ≤ 1000000) : Calls Try.prog 15 #[.pointer (some ⟨p, 0, none⟩), .int .i64 n] W (fun e w' => e = .returned (.int .i64 (epoG (K.map (·.1)) n)) ∧ W = w') := by
  have cf := rfind_c K A c base p n W h hl
  obtain ⟨r, hr⟩ : ∃ r, epoG (K.map (·.1)) n = r := ⟨_, rfl⟩
  rw [hr]
  unfold epoG at hr
  have pc := (h.box.cell 0).trans (show _ = some (Value.slice A K.length c) from rfl)
  rcases fst_find (K := K) (n := n) with ⟨e1, e2⟩ | ⟨i, x, e1, hx, hxi, e2⟩
  · rw [e1] at cf
    rw [e2] at hr
    have HR := Lib.hid hr
    clear h hr e1 e2
    go_enter Try.func15, Try.ntmps15
    go_wp2_with fail
    with_reducible refine cf.mono ?_
    rintro en w2 ⟨rfl, rfl⟩
    go_wp2_with fail
    go_ret
    exact ⟨by rw [← HR.out]; rfl, rfl⟩
  · rw [e1] at cf
    rw [e2] at hr
    have HR := Lib.hid hr
    obtain ⟨g, rfl, _, k0, k1, k2, hgl, hKc⟩ := rk_cell h.row hx
    have hil : i < K.length := (List.getElem?_eq_some_iff.1 hx).1
    have hi0 : (0 : Int) ≤ (i : Int) := by omega
    have hi1 : (i : Int) < (K.length : Int) := by omega
    clear h hr e1 e2 hx hxi
    go_enter Try.func15, Try.ntmps15
    go_wp2_with fail
    with_reducible refine cf.mono ?_
    rintro en w2 ⟨rfl, rfl⟩
    go_wp2_with fail
    go_ret
    exact ⟨by rw [← HR.out]; rfl, rfl⟩
end Go.Proofs.Ytdhakekndinbeaa
