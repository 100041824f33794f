/- member: what the document's examples say, by a contract. No condition. -/
import Derived.Test.YthbcklamhoekmaaMbL0
namespace Go.Proofs.Ythbcklamhoekmaa
open Go.RowKit
set_option linter.unusedVariables false
theorem lit_str (w : World) (s : ByteArray) : StrIn (w.alloc (.cells #[.string s] 9)) (some ⟨w.heap.size, 0, none⟩) [s] := fun _ => ⟨w.heap.size, 0, rfl, (Box.new w 9 #[.string s]).lt, fun j x hx => by
  match j, hx with
  | 0, hx =>
    have : s = x := by simpa using hx
    subst this
    exact (Box.new w 9 #[.string s]).cell 0⟩
theorem lit_top (w : World) (s : ByteArray) (n : Int) : TpIn (w.alloc (.cells #[.string s, .int .i64 n] 54)) (some ⟨w.heap.size, 0, none⟩) [(s, n)] := fun _ => ⟨w.heap.size, 0, rfl, (Box.new w 54 #[.string s, .int .i64 n]).lt, fun j x hx => by
  match j, hx with
  | 0, hx =>
    have : (s, n) = x := by simpa using hx
    subst this
    exact ⟨(Box.new w 54 #[.string s, .int .i64 n]).cell 0, (Box.new w 54 #[.string s, .int .i64 n]).cell 1⟩⟩
/-- A group of the call's own, and no more. -/
def Gx (W : World) (p : Nat) (k : Int) (G : GD) (w : World) : Prop := ∃ v, GO W w p v k G
theorem Gx.later {W w w' : World} {p : Nat} {k : Int} {G : GD} (h : Gx W p k G w) (hb : Below w.heap.size w w') : Gx W p k G w' := h.elim fun v hv => ⟨v, hv.later hb⟩
theorem Gx.bel {W w : World} {p : Nat} {k : Int} {G : GD} (h : Gx W p k G w) : Below W.heap.size W w := h.elim fun v hv => hv.bel
theorem join_lit {W w : World} {p : Nat} {k : Int} {G G' : GD} (h : Gx W p k G w) (hk : k ≤ 999000) (m now r e : Int) (hD : joinD m [tB] now G = G') (hE : joinE m [tB] now G = e) (hM : (if joinE m [tB] now G = 0 then joinM m G else 0) = r) :
    Calls Try.prog 10 #[.pointer (some ⟨p, 0, none⟩), .int .i64 m, .slice (some ⟨w.heap.size, 0, none⟩) 1 1, .int .i64 now] (w.alloc (.cells #[.string tB] 9)) (fun en w' => en = .returned (.tuple #[.int .i64 r, .int .i64 e]) ∧ Gx W p (k + 2) G' w') := by
  obtain ⟨v, hv⟩ := h
  have hA : Below w.heap.size w (w.alloc (.cells #[.string tB] 9)) := (Below.refl _ _).alloc (Nat.le_refl _) _
  have := join_v (hv.later hA) hk m now [tB] (some ⟨w.heap.size, 0, none⟩) 1 (lit_str w tB) (by simp) (fun s hs => by
    have : s = tB := by simpa using hs
    rw [this]; decide) (fun _ a ha hs => by
    injection ha with ha
    rw [← ha] at hs
    have := (hv.lt _ hs).2
    exact Nat.lt_irrefl _ this)
  rw [hM, hD, hE] at this
  refine this.mono ?_
  rintro en w' ⟨rfl, v', h1, _⟩
  exact ⟨rfl, v', h1⟩
theorem join_nilT {W w : World} {p : Nat} {k : Int} {G : GD} (h : Gx W p k G w) (hk : k ≤ 999000) (m now : Int) :
    Calls Try.prog 10 #[.pointer (some ⟨p, 0, none⟩), .int .i64 m, .slice none 0 0, .int .i64 now] w (fun en w' => en = .returned (.tuple #[.int .i64 (if joinE m [] now G = 0 then joinM m G else 0), .int .i64 (joinE m [] now G)]) ∧ Gx W p (k + 2) (joinD m [] now G) w') := by
  obtain ⟨v, hv⟩ := h
  refine (join_v hv hk m now [] none 0 (StrIn.nil _ _) (by simp) (fun s hs => by cases hs) (fun _ a ha => by cases ha)).mono ?_
  rintro en w' ⟨rfl, v', h1, _⟩
  exact ⟨rfl, v', h1⟩
theorem beat_x {W w : World} {p : Nat} {k : Int} {G : GD} (h : Gx W p k G w) (m gen now : Int) : Calls Try.prog 14 #[.pointer (some ⟨p, 0, none⟩), .int .i64 m, .int .i64 gen, .int .i64 now] w (fun en w' => en = .returned (.int .i64 (beatE m gen now G)) ∧ Gx W p k (beatD m gen now G) w') := by
  obtain ⟨v, hv⟩ := h
  refine (beat_v hv m gen now).mono ?_
  rintro en w' ⟨rfl, v', h1, _⟩
  exact ⟨rfl, v', h1⟩
theorem tick_x {W w : World} {p : Nat} {k : Int} {G : GD} (h : Gx W p k G w) (hk : k ≤ 999000) (now : Int) : Calls Try.prog 12 #[.pointer (some ⟨p, 0, none⟩), .int .i64 now] w (fun en w' => en = .returned (.tuple #[]) ∧ Gx W p (k + 2) (tickD now G) w') := by
  obtain ⟨v, hv⟩ := h
  refine (tick_v hv hk now).mono ?_
  rintro en w' ⟨rfl, v', h1, _⟩
  exact ⟨rfl, v', h1⟩
/-- What View tells, and the group as it was. -/
theorem view_x {W w : World} {p : Nat} {k : Int} {G : GD} (h : Gx W p k G w) : Calls Try.prog 13 #[.pointer (some ⟨p, 0, none⟩)] w (fun en w' => ∃ A c, en = .returned (.agg #[.int .i64 G.ph, .int .i64 G.gn, .int .i64 G.nx, .int .i64 G.un, .slice A G.L.length c]) ∧ Gx W p k G w' ∧ Below w.heap.size w w' ∧ ∀ x, G.L[0]? = some x → ∃ g, A = some ⟨g, 0, none⟩ ∧ w'.cell? ⟨g, 0, none⟩ = some (.int .i64 x.n) ∧ g < w'.heap.size) := by
  obtain ⟨v, hv⟩ := h
  refine (view_v hv).mono ?_
  rintro en w' ⟨v', R', rfl, ho, ha, hab, hb⟩
  obtain ⟨A, c, e⟩ := own_slice ho
  have hl : R'.length = G.L.length := by rw [← hab, List.length_map]
  rw [hl] at e
  refine ⟨A, c, by rw [e], ⟨v, hv.later hb⟩, hb, fun x hx => ?_⟩
  rw [← hab, List.getElem?_map] at hx
  cases hR : R'[0]? with
  | none => rw [hR] at hx; cases hx
  | some y =>
    rw [hR] at hx
    injection hx with hx
    rw [e, ← hl] at ho
    have hpos : 0 < R'.length := (List.getElem?_eq_some_iff.1 hR).1
    obtain ⟨g, e2, hlt, _, _, hc⟩ := own_in ho hpos
    have := (mvR_at hR).1
    rw [Nat.zero_mul] at this
    exact ⟨g, e2, by rw [hc _ _ this, ← hx], hlt⟩
theorem knows_x {W w : World} {p : Nat} {k : Int} {G : GD} (h : Gx W p k G w) (m gen : Int) : Calls Try.prog 16 #[.pointer (some ⟨p, 0, none⟩), .int .i64 m, .int .i64 gen] w (fun en w' => en = .returned (.int .i64 (knowE m gen G)) ∧ Gx W p k G w') := by
  obtain ⟨v, hv⟩ := h
  refine (knows_v hv m gen).mono ?_
  rintro en w' ⟨rfl, hb⟩
  exact ⟨rfl, v, hv.later hb⟩
theorem sync_lit {W w : World} {p : Nat} {k : Int} {G : GD} (h : Gx W p k G w) (m gen now : Int) (n : Int) :
    Calls Try.prog 11 #[.pointer (some ⟨p, 0, none⟩), .int .i64 m, .int .i64 gen, .slice (some ⟨w.heap.size, 0, none⟩) 1 1, .bool false, .int .i64 now] (w.alloc (.cells #[.string tB, .int .i64 n] 54)) (fun en w' => ∃ A c, en = .returned (.tuple #[.slice A (syncP m gen [(tB, n)] false now G).length c, .int .i64 (syncE m gen [(tB, n)] now G)]) ∧ Gx W p k (syncD m gen [(tB, n)] false now G) w') := by
  obtain ⟨v, hv⟩ := h
  have hA : Below w.heap.size w (w.alloc (.cells #[.string tB, .int .i64 n] 54)) := (Below.refl _ _).alloc (Nat.le_refl _) _
  refine (sync_v (hv.later hA) m gen now [(tB, n)] (some ⟨w.heap.size, 0, none⟩) 1 false (lit_top w tB n) (by simp) (fun s hs => by
    have : s = (tB, n) := by simpa using hs
    rw [this]; show tB.size ≤ 281474976710656; decide) (fun _ a ha hs => by
    injection ha with ha
    rw [← ha] at hs
    have := (hv.lt _ hs).2
    exact Nat.lt_irrefl _ this)).mono ?_
  rintro en w' ⟨A, c, rfl, _, v', h1, _⟩
  exact ⟨A, c, rfl, v', h1⟩
set_option maxHeartbeats 16000000 in
set_option maxRecDepth 100000 in
theorem live15_c (W : World) : Calls Try.prog 17 #[] W (Good W (.bool true)) := by
  have cn1 := new_ok 10 20 rfl W
  have cn2 := fun w => new_no 0 20 rfl w
  have fd0 := fieldV0
  have fd1 := fieldV1
  go_enter Try.func17, Try.ntmps17
  go_wp2_with fail
  with_reducible refine cn1.mono ?_
  rintro e w1 ⟨rfl, hw1⟩
  have H1 : Hid (Gx W W.heap.size 0 (newG 10 20) w1) := Lib.hid (by rw [hw1]; exact ⟨_, GO.new (Below.refl _ _) (by omega) (by omega)⟩)
  clear hw1 cn1
  go_wp2_with fail
  with_reducible refine (cn2 _).mono ?_
  rintro e w2 ⟨rfl, hw2⟩
  rw [← hw2] at H1
  clear hw2 cn2
  have j1 := join_lit H1.out (by omega) (-1) 1 0 0 lv1.1 lv1.2.1 (by rw [lv1.2.1]; exact lv1.2.2)
  unfold tB at j1
  go_wp2_with fail
  with_reducible refine j1.mono ?_
  rintro e w3 ⟨rfl, H3⟩
  have V3 := view_x H3
  unfold lvG1 at V3
  clear j1 H1 H3
  go_wp2_with fail
  with_reducible refine V3.mono ?_
  rintro e w4 ⟨A4, c4, rfl, H4, -, -⟩
  have j4 := join_lit H4 (by omega) (-1) 2 1 0 lv2.1 lv2.2.1 (by have := lv2.2; unfold lvG1 at this; rw [this.1]; exact this.2)
  unfold tB at j4
  clear V3 H4
  go_wp2_with fail
  with_reducible refine j4.mono ?_
  rintro e w5 ⟨rfl, H5⟩
  have b5 := beat_x H5 0 1 3
  rw [lv3.1, lv3.2] at b5
  clear j4 H5
  go_wp2_with fail
  with_reducible refine b5.mono ?_
  rintro e w6 ⟨rfl, H6⟩
  have j6 := join_lit H6 (by omega) 0 3 0 0 lv4.1 lv4.2.1 (by rw [lv4.2.1]; exact lv4.2.2)
  unfold tB at j6
  clear b5 H6
  go_wp2_with fail
  with_reducible refine j6.mono ?_
  rintro e w7 ⟨rfl, H7⟩
  have s7 := sync_lit H7 0 2 4 3
  rw [lv5.1, lv5.2.1, lv5.2.2] at s7
  unfold tB at s7
  clear j6 H7
  go_wp2_with fail
  with_reducible refine s7.mono ?_
  rintro e w8 ⟨A8, c8, rfl, H8⟩
  have V8 := view_x H8
  unfold lvG5 at V8
  clear s7 H8
  go_wp2_with fail
  with_reducible refine V8.mono ?_
  rintro e w9 ⟨A9, c9, rfl, H9, -, -⟩
  have k9 := knows_x H9 1 1
  have hk9 := lv6
  unfold lvG5 at hk9
  rw [hk9] at k9
  clear V8 H9 hk9
  go_wp2_with fail
  with_reducible refine k9.mono ?_
  rintro e wa ⟨rfl, Ha⟩
  have HB := Lib.hid Ha.bel
  clear k9 Ha
  go_wp2_with fail
  go_ret
  exact ⟨rfl, HB.out⟩
end Go.Proofs.Ythbcklamhoekmaa
