/- member: MemberGone, walked. No condition. -/
import Derived.Test.YtlojecfnbcckjaaMbLate
namespace Go.Proofs.Ytlojecfnbcckjaa
open Go.RowKit
set_option linter.unusedVariables false
def gnG0 (s : Int) : GD := ⟨2, 1, 1, 100000, [⟨0, [], 0 + s, true, []⟩], s, 100000⟩
def gnG (s u : Int) : GD := ⟨3, 1, 1, 0, [⟨0, [], u, true, []⟩], s, 100000⟩
def gnE (s : Int) : GD := ⟨0, 1, 1, 0, [], s, 100000⟩
theorem gn1 (s : Int) : joinD (-1) [] 0 (newG s 100000) = gnG0 s ∧ joinE (-1) [] 0 (newG s 100000) = 0 ∧ joinM (-1) (newG s 100000) = 0 := ⟨rfl, rfl, rfl⟩
theorem gn2 (s : Int) : syncD 0 1 [] false 0 (gnG0 s) = gnG s (0 + s) ∧ syncE 0 1 [] 0 (gnG0 s) = 0 := ⟨rfl, rfl⟩
theorem gn3 {s u now : Int} (h0 : 0 ≤ now) (h1 : now ≤ 1000) (hu : now < u) : tickD now (gnG s u) = gnG s u := by
  unfold tickD
  rw [if_pos (time_in h0 (by omega)), tick_keep (fun x hx => by
    simp [gnG] at hx
    rw [hx]; exact hu)]
  unfold tick2D
  rw [if_neg (show ¬ now < (gnG s u).un by show ¬ now < 0; omega), if_neg (by show ¬ (3 : Int) = 1; decide), if_neg (by show ¬ (3 : Int) = 2; decide)]
theorem gn4 {s u now : Int} (h0 : 0 ≤ now) (h1 : now ≤ 1000) : beatD 0 1 now (gnG s u) = gnG s (now + s) ∧ beatE 0 1 now (gnG s u) = 0 := by
  have ht := time_in h0 (show now ≤ 1099511627776 by omega)
  constructor
  · unfold beatD
    rw [if_pos ⟨ht, rfl⟩]
    rfl
  · unfold beatE
    rw [if_pos ht]
    rfl
theorem gn5 {s u now : Int} (h0 : 0 ≤ now) (h1 : now ≤ 1000) (hu : u ≤ now) : tickD now (gnG s u) = gnE s := by
  have hd : dropD (fun x => decide (x.u ≤ now)) (gnG s u) = ⟨3, 1, 1, 0, [], s, 100000⟩ := by
    unfold dropD gnG
    simp [hu]
  unfold tickD
  rw [if_pos (time_in h0 (by omega))]
  unfold tick1D
  rw [hd, if_pos (show decide (([] : List MD).length < (gnG s u).L.length) = true from rfl)]
  unfold tick2D
  rw [if_neg (show ¬ now < (goOnD now ⟨3, 1, 1, 0, [], s, 100000⟩).un by show ¬ now < 0; omega)]
  rfl
theorem sync_nilT {W w : World} {p : Nat} {k : Int} {G : GD} (h : Gx W p k G w) (m gen now : Int) :
    Calls Try.prog 11 #[.pointer (some ⟨p, 0, none⟩), .int .i64 m, .int .i64 gen, .slice none 0 0, .bool false, .int .i64 now] w (fun en w' => ∃ A n c, en = .returned (.tuple #[.slice A n c, .int .i64 (syncE m gen [] now G)]) ∧ Gx W p k (syncD m gen [] false now G) w') := by
  obtain ⟨v, hv⟩ := h
  refine (sync_v hv m gen now [] none 0 false (TpIn.nil _ _) (by simp) (fun s hs => by cases hs) (fun _ a ha => by cases ha)).mono ?_
  rintro en w' ⟨A, c, rfl, _, v', h1, _⟩
  exact ⟨A, _, c, rfl, v', h1⟩
set_option maxHeartbeats 16000000 in
set_option maxRecDepth 100000 in
theorem memberGone_walk (s : Int) (W : World) (_h0 : (Lit.int .i64 s).wf = true) : Calls Try.prog 8 #[.int .i64 s] W (Good W (.bool true)) := by
  clear _h0
  by_cases hr1 : s < 2
  · go_enter Try.func8, Try.ntmps8
    go_wp2_with fail
    with_reducible refine (live15_c _).mono ?_
    rintro e w1 ⟨rfl, hb1⟩
    go_wp2_with fail
    go_ret
    exact ⟨rfl, hb1⟩
  by_cases hr2 : 100 < s
  · go_enter Try.func8, Try.ntmps8
    go_wp2_with fail
    with_reducible refine (live15_c _).mono ?_
    rintro e w1 ⟨rfl, hb1⟩
    go_wp2_with fail
    go_ret
    exact ⟨rfl, hb1⟩
  have cn1 := new_ok s 100000 (by unfold witB; rw [decide_eq_true (by omega : 1 ≤ s), decide_eq_true (by omega : s ≤ 100000)]; rfl) W
  have HR : Hid (2 ≤ s ∧ s ≤ 100) := Lib.hid (by omega)
  have fd4 := fieldV4
  go_enter Try.func8, Try.ntmps8
  go_wp2_with fail
  with_reducible refine cn1.mono ?_
  rintro e w1 ⟨rfl, hw1⟩
  have H1 : Hid (Gx W W.heap.size 0 (newG s 100000) w1) := Lib.hid (by rw [hw1]; exact ⟨_, GO.new (Below.refl _ _) (by omega) (by omega)⟩)
  clear hw1 cn1
  have j1 := join_nilT H1.out (by omega) (-1) 0
  rw [(gn1 s).1, (gn1 s).2.1, (gn1 s).2.2] at j1
  go_wp2_with fail
  with_reducible refine j1.mono ?_
  rintro e w2 ⟨rfl, H2⟩
  have s2 := sync_nilT H2 0 1 0
  rw [(gn2 s).1, (gn2 s).2] at s2
  clear j1 H1 H2
  go_wp2_with fail
  with_reducible refine s2.mono ?_
  rintro e w3 ⟨A3, n3, c3, rfl, H3⟩
  have HG := Lib.hid H3
  clear s2 H3
  go_wp2_with fail
  go_loopw [5] (fun j wr => ∃ (k c : Int), j = .int .i64 k ∧ 1 ≤ k ∧ k ≤ 3 * s ∧ c ≤ 2 * k + 10 ∧ Gx W W.heap.size c (gnG s (k - 1 + s)) wr) (fun j _ => (3 * s).toNat - (intOf j).toNat)
  case atStart => exact ⟨1, _, rfl, by omega, by omega, by omega, HG.out⟩
  case round =>
    obtain ⟨k, c, rfl, hk1, hk2, hc, hG⟩ := hrel
    clear HG
    have hs := HR.out
    by_cases hk : k < 3 * s
    · have t1 := tick_x hG (by omega) k
      rw [gn3 (by omega) (by omega) (by omega)] at t1
      clear hG
      go_wp2_with fail
      with_reducible refine t1.mono ?_
      rintro e w5 ⟨rfl, H5⟩
      have b5 := beat_x H5 0 1 k
      rw [(gn4 (by omega) (by omega)).1, (gn4 (by omega) (by omega)).2] at b5
      clear H5 t1
      go_wp2_with fail
      with_reducible refine b5.mono ?_
      rintro e w6 ⟨rfl, H6⟩
      have H7 : Hid (Gx W W.heap.size (c + 2) (gnG s (k + 1 - 1 + s)) w6) := Lib.hid (by rw [show k + 1 - 1 + s = k + s by omega]; exact H6)
      clear b5 H6
      go_wp2_with fail
      go_roundw
      case rel => exact ⟨k + 1, c + 2, by go_num, by omega, by omega, by omega, H7.out⟩
      case measure => simp [intOf]; omega
    · have hk3 : k = 3 * s := by omega
      subst hk3
      have t1 := tick_x hG (by omega) (3 * s - 1 + s - 1)
      rw [gn3 (by omega) (by omega) (by omega)] at t1
      clear hG
      go_wp2_with fail
      with_reducible refine t1.mono ?_
      rintro e w5 ⟨rfl, H5⟩
      have V5 := view_x H5
      unfold gnG at V5
      clear H5 t1
      go_wp2_with fail
      with_reducible refine V5.mono ?_
      rintro e w6 ⟨A6, c6, rfl, H6, -, -⟩
      have t6 := tick_x H6 (by omega) (3 * s - 1 + s)
      rw [show tickD (3 * s - 1 + s) ⟨3, 1, 1, 0, [⟨0, [], 3 * s - 1 + s, true, []⟩], s, 100000⟩ = gnE s from gn5 (by omega) (by omega) (by omega)] at t6
      clear V5 H6
      go_wp2_with fail
      with_reducible refine t6.mono ?_
      rintro e w7 ⟨rfl, H7⟩
      have V7 := view_x H7
      unfold gnE at V7
      clear H7 t6
      go_wp2_with fail
      with_reducible refine V7.mono ?_
      rintro e w8 ⟨A8, c8, rfl, H8, -, -⟩
      have hA : Below w8.heap.size w8 (w8.alloc (.cells #[.int .i64 0, .int .i64 1, .int .i64 1, .int .i64 0, .slice A8 0 c8] 38)) := (Below.refl _ _).alloc (Nat.le_refl _) _
      obtain ⟨⟨s0, s1, s2, s3, s4⟩, sl, _⟩ := vw5 (Box.new w8 38 #[.int .i64 0, .int .i64 1, .int .i64 1, .int .i64 0, .slice A8 0 c8])
      have HB := Lib.hid (H8.later hA).bel
      clear V7 H8 hA
      go_wp2_with fail
      with_reducible refine (live15_c _).mono ?_
      rintro e w9 ⟨rfl, hb9⟩
      go_wp2_with fail
      go_ret
      exact ⟨rfl, HB.out.trans (hb9.mono HB.out.size)⟩
end Go.Proofs.Ytlojecfnbcckjaa
