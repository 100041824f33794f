/- member: MemberLate, MemberGone: plain laws, and the walks. No condition. -/
import Derived.Test.YtlojecfnbcckjaaMbLiv
import Derived.BigQuiet
namespace Go.Proofs.Ytlojecfnbcckjaa
open Go.RowKit
set_option linter.unusedVariables false
theorem drop_keep {f : MD → Bool} {G : GD} (h : ∀ x ∈ G.L, f x = false) : dropD f G = G := by
  unfold dropD
  rw [List.filter_eq_self.2 (fun x hx => by rw [h x hx]; rfl)]
theorem tick_keep {now : Int} {G : GD} (h : ∀ x ∈ G.L, now < x.u) : tick1D now G = G := by
  have e : dropD (fun x => decide (x.u ≤ now)) G = G := drop_keep (fun x hx => decide_eq_false (by have := h x hx; omega))
  unfold tick1D
  rw [e, if_neg (by simp)]
theorem time_in {now : Int} (h0 : 0 ≤ now) (h1 : now ≤ 1099511627776) : timeB now = true := by
  unfold timeB witB
  rw [decide_eq_true h0, decide_eq_true h1]
  rfl
def ltG1 (r : Int) : GD := ⟨2, 1, 1, 5 + r, [⟨0, [], 1005, true, []⟩], 1000, r⟩
def ltG2 (r : Int) : GD := ⟨1, 1, 2, 6 + r, [⟨0, [], 1005, false, []⟩, ⟨1, [], 1006, true, []⟩], 1000, r⟩
def ltG3 (r : Int) : GD := ⟨2, 2, 2, 5 + r + r, [⟨0, [], 5 + r + 1000, true, []⟩, ⟨1, [], 1006, true, []⟩], 1000, r⟩
def ltG4 (r : Int) : GD := ⟨2, 2, 2, 6 + r + r, [⟨1, [], 1006, true, []⟩], 1000, r⟩
theorem lt1 (r : Int) : joinD (-1) [] 5 (newG 1000 r) = ltG1 r ∧ joinE (-1) [] 5 (newG 1000 r) = 0 ∧ joinM (-1) (newG 1000 r) = 0 := ⟨rfl, rfl, rfl⟩
theorem lt2 (r : Int) : joinD (-1) [] 6 (ltG1 r) = ltG2 r ∧ joinE (-1) [] 6 (ltG1 r) = 0 ∧ joinM (-1) (ltG1 r) = 1 := ⟨rfl, rfl, rfl⟩
theorem lt3 {r : Int} (h : 1 ≤ r ∧ r ≤ 100) : tickD (5 + r) (ltG2 r) = ltG2 r := by
  unfold tickD
  rw [if_pos (time_in (by omega) (by omega)), tick_keep (fun x hx => by
    simp [ltG2] at hx
    rcases hx with rfl | rfl <;> simp <;> omega)]
  unfold tick2D
  rw [if_pos (show 5 + r < (ltG2 r).un by show 5 + r < 6 + r; omega)]
theorem lt4 {r : Int} (h : 1 ≤ r ∧ r ≤ 100) : joinD 0 [] (5 + r) (ltG2 r) = ltG3 r ∧ joinE 0 [] (5 + r) (ltG2 r) = 0 := by
  have hE : joinE 0 [] (5 + r) (ltG2 r) = 0 := by
    unfold joinE
    rw [time_in (by omega) (by omega)]
    rfl
  refine ⟨?_, hE⟩
  unfold joinD
  rw [if_pos hE]
  rfl
theorem lt5 {r : Int} (h : 1 ≤ r ∧ r ≤ 100) : tickD (6 + r) (ltG2 r) = ltG4 r := by
  unfold tickD
  rw [if_pos (time_in (by omega) (by omega)), tick_keep (fun x hx => by
    simp [ltG2] at hx
    rcases hx with rfl | rfl <;> simp <;> omega)]
  unfold tick2D
  rw [if_neg (show ¬ 6 + r < (ltG2 r).un by show ¬ 6 + r < 6 + r; omega), if_pos (show (ltG2 r).ph = 1 from rfl)]
  rfl
theorem lt6 {r : Int} (h : 1 ≤ r ∧ r ≤ 100) : beatE 0 2 (7 + r) (ltG4 r) = 11 := by
  unfold beatE
  rw [if_pos (time_in (by omega) (by omega))]
  rfl
set_option maxHeartbeats 16000000 in
set_option maxRecDepth 100000 in
theorem memberLate_w (r early : Int) (W : World) (he0 : -9223372036854775808 ≤ early) (he1 : early ≤ 9223372036854775807) : Calls Try.prog 7 #[.int .i64 r, .int .i64 early] W (Good W (.bool true)) := by
  by_cases hr1 : r < 1
  · go_enter Try.func7, Try.ntmps7
    go_wp2_with fail
    with_reducible refine (live15_c _).mono ?_
    rintro e w1 ⟨rfl, hb1⟩
    go_wp2_with fail
    go_ret
    exact ⟨rfl, hb1⟩
  by_cases hr2 : 100 < r
  · go_enter Try.func7, Try.ntmps7
    go_wp2_with fail
    with_reducible refine (live15_c _).mono ?_
    rintro e w1 ⟨rfl, hb1⟩
    go_wp2_with fail
    go_ret
    exact ⟨rfl, hb1⟩
  have hr : 1 ≤ r ∧ r ≤ 100 := by omega
  have cn1 := new_ok 1000 r (by unfold witB; rw [decide_eq_true (by omega : 1 ≤ r), decide_eq_true (by omega : r ≤ 100000)]; rfl) W
  have HR := Lib.hid hr
  by_cases hev : early.tmod 2 = 0
  · have hev' : (early.tmod 2 == 0) = true := by rw [hev]; rfl
    clear hev
    go_enter Try.func7, Try.ntmps7
    go_wp2_with fail
    with_reducible refine cn1.mono ?_
    rintro e w1 ⟨rfl, hw1⟩
    have H1 : Hid (Gx W W.heap.size 0 (newG 1000 r) w1) := Lib.hid (by rw [hw1]; exact ⟨_, GO.new (Below.refl _ _) (by omega) (by omega)⟩)
    clear hw1 cn1
    have j1 := join_nilT H1.out (by omega) (-1) 5
    rw [(lt1 r).1, (lt1 r).2.1, (lt1 r).2.2] at j1
    go_wp2_with fail
    with_reducible refine j1.mono ?_
    rintro e w2 ⟨rfl, H2⟩
    have j2 := join_nilT H2 (by omega) (-1) 6
    rw [(lt2 r).1, (lt2 r).2.1, (lt2 r).2.2] at j2
    clear j1 H1 H2
    go_wp2_with fail
    with_reducible refine j2.mono ?_
    rintro e w3 ⟨rfl, H3⟩
    have t3 := tick_x H3 (by omega) (5 + r)
    rw [lt3 HR.out] at t3
    clear j2 H3
    go_wp2_with fail
    with_reducible refine t3.mono ?_
    rintro e w4 ⟨rfl, H4⟩
    have V4 := view_x H4
    unfold ltG2 at V4
    clear t3 H4
    go_wp2_with fail
    with_reducible refine V4.mono ?_
    rintro e w5 ⟨A5, c5, rfl, H5, -, -⟩
    have hA : Below w5.heap.size w5 (w5.alloc (.cells #[.int .i64 1, .int .i64 1, .int .i64 2, .int .i64 (6 + r), .slice A5 2 c5] 38)) := (Below.refl _ _).alloc (Nat.le_refl _) _
    obtain ⟨⟨s0, s1, s2, s3, s4⟩, sl, _⟩ := vw5 (Box.new w5 38 #[.int .i64 1, .int .i64 1, .int .i64 2, .int .i64 (6 + r), .slice A5 2 c5])
    have j5 := join_nilT (H5.later hA) (by omega) 0 (5 + r)
    have h4 := lt4 HR.out
    unfold ltG2 at h4
    rw [h4.1, h4.2] at j5
    clear V4 H5 hA h4
    go_wp2_with fail
    with_reducible refine j5.mono ?_
    rintro e w6 ⟨rfl, H6⟩
    have V6 := view_x H6
    unfold ltG3 at V6
    clear j5 H6 s0 s1 s2 s3 s4 sl
    go_wp2_with fail
    with_reducible refine V6.mono ?_
    rintro e w7 ⟨A7, c7, rfl, H7, -, -⟩
    have hA : Below w7.heap.size w7 (w7.alloc (.cells #[.int .i64 2, .int .i64 2, .int .i64 2, .int .i64 (5 + r + r), .slice A7 2 c7] 38)) := (Below.refl _ _).alloc (Nat.le_refl _) _
    obtain ⟨⟨s0, s1, s2, s3, s4⟩, sl, _⟩ := vw5 (Box.new w7 38 #[.int .i64 2, .int .i64 2, .int .i64 2, .int .i64 (5 + r + r), .slice A7 2 c7])
    have HB := Lib.hid (H7.later hA).bel
    clear V6 H7 hA
    go_wp2_with fail
    with_reducible refine (live15_c _).mono ?_
    rintro e w8 ⟨rfl, hb8⟩
    go_wp2_with fail
    go_ret
    exact ⟨rfl, HB.out.trans (hb8.mono HB.out.size)⟩
  · have hev' : (early.tmod 2 == 0) = false := beq_eq_false_iff_ne.2 hev
    clear hev
    go_enter Try.func7, Try.ntmps7
    go_wp2_with fail
    with_reducible refine cn1.mono ?_
    rintro e w1 ⟨rfl, hw1⟩
    have H1 : Hid (Gx W W.heap.size 0 (newG 1000 r) w1) := Lib.hid (by rw [hw1]; exact ⟨_, GO.new (Below.refl _ _) (by omega) (by omega)⟩)
    clear hw1 cn1
    have j1 := join_nilT H1.out (by omega) (-1) 5
    rw [(lt1 r).1, (lt1 r).2.1, (lt1 r).2.2] at j1
    go_wp2_with fail
    with_reducible refine j1.mono ?_
    rintro e w2 ⟨rfl, H2⟩
    have j2 := join_nilT H2 (by omega) (-1) 6
    rw [(lt2 r).1, (lt2 r).2.1, (lt2 r).2.2] at j2
    clear j1 H1 H2
    go_wp2_with fail
    with_reducible refine j2.mono ?_
    rintro e w3 ⟨rfl, H3⟩
    have t3 := tick_x H3 (by omega) (5 + r)
    rw [lt3 HR.out] at t3
    clear j2 H3
    go_wp2_with fail
    with_reducible refine t3.mono ?_
    rintro e w4 ⟨rfl, H4⟩
    have V4 := view_x H4
    unfold ltG2 at V4
    clear t3 H4
    go_wp2_with fail
    with_reducible refine V4.mono ?_
    rintro e w5 ⟨A5, c5, rfl, H5, -, -⟩
    have hA : Below w5.heap.size w5 (w5.alloc (.cells #[.int .i64 1, .int .i64 1, .int .i64 2, .int .i64 (6 + r), .slice A5 2 c5] 38)) := (Below.refl _ _).alloc (Nat.le_refl _) _
    obtain ⟨⟨s0, s1, s2, s3, s4⟩, sl, _⟩ := vw5 (Box.new w5 38 #[.int .i64 1, .int .i64 1, .int .i64 2, .int .i64 (6 + r), .slice A5 2 c5])
    have t5 := tick_x (H5.later hA) (by omega) (6 + r)
    have h4 := lt5 HR.out
    unfold ltG2 at h4
    rw [h4] at t5
    clear V4 H5 hA h4
    go_wp2_with fail
    with_reducible refine t5.mono ?_
    rintro e w6 ⟨rfl, H6⟩
    have V6 := view_x H6
    unfold ltG4 at V6
    clear t5 H6 s0 s1 s2 s3 s4 sl
    go_wp2_with fail
    with_reducible refine V6.mono ?_
    rintro e w7 ⟨A7, c7, rfl, H7, -, hm7⟩
    obtain ⟨g7, rfl, q7, hl7⟩ := hm7 _ rfl
    have hA : Below w7.heap.size w7 (w7.alloc (.cells #[.int .i64 2, .int .i64 2, .int .i64 2, .int .i64 (6 + r + r), .slice (some ⟨g7, 0, none⟩) 1 c7] 38)) := (Below.refl _ _).alloc (Nat.le_refl _) _
    obtain ⟨⟨s0, s1, s2, s3, s4⟩, sl, _⟩ := vw5 (Box.new w7 38 #[.int .i64 2, .int .i64 2, .int .i64 2, .int .i64 (6 + r + r), .slice (some ⟨g7, 0, none⟩) 1 c7])
    have q8 := (hA.cell (p := ⟨g7, 0, none⟩) hl7).trans q7
    have b7 := beat_x (H7.later hA) 0 2 (7 + r)
    have h6 := lt6 HR.out
    unfold ltG4 at h6
    rw [h6] at b7
    clear V6 H7 hA h6 hm7
    go_wp2_with fail
    with_reducible refine b7.mono ?_
    rintro e w8 ⟨rfl, H8⟩
    have HB := Lib.hid H8.bel
    clear b7 H8
    go_wp2_with fail
    with_reducible refine (live15_c _).mono ?_
    rintro e w9 ⟨rfl, hb9⟩
    go_wp2_with fail
    go_ret
    exact ⟨rfl, HB.out.trans (hb9.mono HB.out.size)⟩
end Go.Proofs.Ytlojecfnbcckjaa
