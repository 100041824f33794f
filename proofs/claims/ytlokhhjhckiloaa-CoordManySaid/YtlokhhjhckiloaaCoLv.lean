/- coord: what the document's examples say, by a contract. No condition. -/
import Derived.Test.YtlokhhjhckiloaaCoNw
namespace Go.Proofs.Ytlokhhjhckiloaa
open Go.RowKit Go.Maps Go.ChangeMaps Go.WideMaps
set_option linter.unusedVariables false
def tB : ByteArray := ⟨#[116]⟩
def gB : ByteArray := ⟨#[103]⟩
def hB : ByteArray := ⟨#[104]⟩
def lvG1 : GD := ⟨2, 1, 1, 21, [⟨0, [tB], 11, true, []⟩], 10, 20⟩
theorem lv1 : joinD (-1) [tB] 1 (newG 10 20) = lvG1 ∧ joinE (-1) [tB] 1 (newG 10 20) = 0 ∧ joinM (-1) (newG 10 20) = 0 := ⟨rfl, rfl, rfl⟩
theorem lit_str (w : World) (s : ByteArray) : StrIn (w.alloc (.cells #[.string s] 9)) (some ⟨w.heap.size, 0, none⟩) [s] := fun _ => ⟨w.heap.size, 0, rfl, (Box.new w 9 #[.string s]).lt, fun j x hx => by
  match j, hx with
  | 0, hx =>
    have : s = x := by simpa using hx
    subst this
    exact (Box.new w 9 #[.string s]).cell 0⟩
def lvS : List UInt8 → Option GD := putSt (fun _ => none) gB.data.toList (some lvG1)
theorem lvm1 : mayCE (lvS gB.data.toList) 0 1 = 0 := rfl
theorem lvm2 : mayCE (lvS gB.data.toList) (-1) (-1) = 11 := rfl
theorem lvm3 : mayCE (lvS hB.data.toList) (-1) (-1) = 0 := rfl
theorem lvc : Of.coR 1000 [] ⟨gB, tB, 0⟩ 7 = 0 ∧ Of.geR (Of.coS 1000 [] ⟨gB, tB, 0⟩ 7) ⟨gB, tB, 0⟩ = (7, true) := by
  constructor
  · rfl
  · decide +kernel
theorem lvky : Of.KyOk ⟨gB, tB, 0⟩ := ⟨by decide, by decide, rfl⟩
set_option maxHeartbeats 16000000 in
set_option maxRecDepth 100000 in
theorem live17_c (W : World) : Calls Try.prog 5 #[] W (Good W (.bool true)) := by
  have cn1 := cnew_ok 10 20 (by omega) (by omega) W W (Below.refl _ _)
  have cn2 := fun w => cnew_no 0 0 rfl w
  have fd0 := fieldV0
  go_enter Try.func5, Try.ntmps5
  go_wp2_with fail
  with_reducible refine cn1.mono ?_
  rintro e w1 ⟨p, rfl, hC⟩
  have H1 := Lib.hid hC
  clear cn1 hC
  go_wp2_with fail
  with_reducible refine (cn2 _).mono ?_
  rintro e w2 ⟨rfl, rfl⟩
  clear cn2
  have hA : Below w2.heap.size w2 (w2.alloc (.cells #[.string tB] 9)) := (Below.refl _ _).alloc (Nat.le_refl _) _
  have cj := join_x (H1.out.later hA) ⟨by omega, by omega⟩ gB ⟨by decide, by decide⟩ (.inr (by omega)) (-1) 1 [tB] (some ⟨w2.heap.size, 0, none⟩) 1 (lit_str w2 tB) (by simp) (fun s hs => by
    have : s = tB := by simpa using hs
    rw [this]; decide) (fun _ a ha g o og F V D hc e he => by
    injection ha with ha
    rw [← ha]
    obtain ⟨R, hR⟩ := (hc.grp e he).is
    exact grS_box hR (Box.new w2 9 #[.string tB]) (by decide) (by decide))
  rw [show ((none : Option GD).getD (newG 10 20)) = newG 10 20 from rfl, lv1.1, lv1.2.1, lv1.2.2, show lvG1.gn = 1 from rfl, show leadM lvG1 = 0 from rfl] at cj
  rw [show ([tB] : List ByteArray).length = 1 from rfl] at cj
  unfold tB gB at cj
  clear hA
  go_wp2_with fail
  with_reducible refine cj.mono ?_
  rintro en w3 ⟨a, b, d, e, rfl, he, _, h0⟩
  subst he
  obtain ⟨rfl, rfl, rfl, n', hn', hC⟩ := h0 rfl
  have hA3 : Below w3.heap.size w3 (w3.alloc (.cells #[.int .i64 0, .int .i64 1, .int .i64 0] 28)) := (Below.refl _ _).alloc (Nat.le_refl _) _
  have hC' : Cx W p 2 10 20 lvS n' [] w3 := hC
  have HC3 := Lib.hid (hC'.later hA3)
  have HB3 := Lib.hid (Box.new w3 28 #[.int .i64 0, .int .i64 1, .int .i64 0])
  clear cj h0 hC H1 hC' hA3
  have k1 := may_x HC3.out gB (by decide) 0 1
  rw [lvm1] at k1
  unfold gB at k1
  go_wp2_with fail
  with_reducible refine k1.mono ?_
  rintro en w4 ⟨rfl, hb4⟩
  have HC4 := Lib.hid (HC3.out.later hb4)
  have HB4 := Lib.hid (HB3.out.later hb4)
  have k2 := may_x HC4.out gB (by decide) (-1) (-1)
  rw [lvm2] at k2
  unfold gB at k2
  clear k1 hb4 HC3 HB3
  go_wp2_with fail
  with_reducible refine k2.mono ?_
  rintro en w5 ⟨rfl, hb5⟩
  have HC5 := Lib.hid (HC4.out.later hb5)
  have HB5 := Lib.hid (HB4.out.later hb5)
  have k3 := may_x HC5.out hB (by decide) (-1) (-1)
  rw [lvm3] at k3
  unfold hB at k3
  clear k2 hb5 HC4 HB4
  go_wp2_with fail
  with_reducible refine k3.mono ?_
  rintro en w6 ⟨rfl, hb6⟩
  have HC6 := Lib.hid (HC5.out.later hb6)
  have HB6 := Lib.hid (HB5.out.later hb6)
  have k4 := commit_x HC6.out gB tB 0 7
  rw [lvc.1] at k4
  unfold gB tB at k4
  clear k3 hb6 HC5 HB5
  go_wp2_with fail
  with_reducible refine k4.mono ?_
  rintro en w7 ⟨rfl, hC7, hk7⟩
  have HC7 : Hid (Cx W p 2 10 20 lvS n' (Of.coS 1000 [] ⟨gB, tB, 0⟩ 7) w7) := Lib.hid hC7
  have HB7 := Lib.hid (hk7 _ _ _ HB6.out)
  have k5 := committed_x HC7.out gB tB 0 lvky
  rw [lvc.2] at k5
  unfold gB tB at k5
  clear k4 hC7 hk7 HC6 HB6
  go_wp2_with fail
  with_reducible refine k5.mono ?_
  rintro en w8 ⟨rfl, hb8⟩
  have HC8 := Lib.hid (HC7.out.later hb8)
  have HB8 := Lib.hid (HB7.out.later hb8)
  obtain ⟨r0, r1, r2, rl, _⟩ := jn3 HB8.out
  have k6 := group_x HC8.out gB (by decide)
  rw [show (lvS gB.data.toList).getD zG = lvG1 from rfl, show lvG1.ph = 2 from rfl] at k6
  unfold gB at k6
  clear k5 hb8 HC7 HB7
  go_wp2_with fail
  with_reducible refine k6.mono ?_
  rintro en w9 ⟨v9, R9, rfl, hr9, _, _, hb9⟩
  obtain ⟨A9, n9, rfl⟩ := own_slice hr9
  have HB9 := Lib.hid (HC8.out.bel.trans (hb9.mono HC8.out.bel.size))
  clear k6 hr9 hb9
  go_wp2_with fail
  go_ret
  exact ⟨rfl, HB9.out⟩
end Go.Proofs.Ytlokhhjhckiloaa
