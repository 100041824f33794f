/- coord: New, Commit, Committed; a coordinator that is none. No condition. -/
import Derived.Test.YtlokhhjhckiloaaCoCl
namespace Go.Proofs.Ytlokhhjhckiloaa
open Go.RowKit Go.Maps Go.ChangeMaps Go.WideMaps
set_option linter.unusedVariables false
set_option maxRecDepth 100000 in
theorem cnew_no (s r : Int) (h : (witB s 1 100000 && witB r 1 100000) = false) (W : World) : Calls Try.prog 6 #[.int .i64 s, .int .i64 r] W (fun e w' => e = .returned (.tuple #[.pointer none, .int .i64 1]) ∧ w' = W) := by
  have cn := new_no s r h W
  go_enter Try.func6, Try.ntmps6
  go_wp2_with fail
  with_reducible refine cn.mono ?_
  rintro en w2 ⟨rfl, rfl⟩
  go_wp2_with fail
  go_ret2
  exact ⟨rfl, rfl⟩
set_option maxHeartbeats 4000000 in
set_option maxRecDepth 100000 in
theorem cnew_ok (s r : Int) (hs : 1 ≤ s ∧ s ≤ 100000) (hr : 1 ≤ r ∧ r ≤ 100000) (W0 W : World) (hb0 : Below W0.heap.size W0 W) : Calls Try.prog 6 #[.int .i64 s, .int .i64 r] W (fun e w' => ∃ p, e = .returned (.tuple #[.pointer (some ⟨p, 0, none⟩), .int .i64 0]) ∧ Cx W0 p 0 s r (fun _ => none) 0 [] w') := by
  have cn := new_ok s r (wit_ok hs hr) W
  have HB0 := Lib.hid hb0
  clear hb0
  go_enter Try.func6, Try.ntmps6
  go_wp2_with fail
  with_reducible refine cn.mono ?_
  rintro en w1 ⟨rfl, hw1⟩
  have hb1 : Below W.heap.size W w1 := by rw [hw1]; exact (Below.refl _ _).alloc (Nat.le_refl _) _
  have HB1 := Lib.hid (HB0.out.trans (hb1.mono HB0.out.size))
  have co := Of.new_v W0 w1 1000 (by omega) (by omega) HB1.out.size
  clear cn hw1 hb1
  go_wp2_with fail
  with_reducible refine co.mono ?_
  rintro en w2 ⟨o, og, rfl, hO, h1, h2, h3, h4, hb⟩
  have HB2 := Lib.hid (HB1.out.trans (hb.mono HB1.out.size))
  have HO := Lib.hid hO
  have H4 := Lib.hid h4
  have H3 := Lib.hid h3
  have q2 : ∀ w : World, (Instr.makeMap 51 none).run Try.prog w = .ok (.map (some w.heap.size)) (w.alloc (.map #[] 0)) := fun w => by
    first
      | rfl
      | exact run_makeMap _ _
  clear co hO h1 h2 h3 h4 hb
  go_wp2_with fail
  go_ret2
  have hA1 : Below w2.heap.size w2 (w2.alloc (.map #[] 0)) := (Below.refl _ _).alloc (Nat.le_refl _) _
  have hA2 : Below (w2.alloc (.map #[] 0)).heap.size (w2.alloc (.map #[] 0)) ((w2.alloc (.map #[] 0)).alloc (.cells #[.int .i64 s, .int .i64 r, .map (some w2.heap.size), .pointer (some ⟨o, 0, none⟩)] 53)) := (Below.refl _ _).alloc (Nat.le_refl _) _
  have hbx := Box.new (w2.alloc (.map #[] 0)) 53 #[.int .i64 s, .int .i64 r, .map (some w2.heap.size), .pointer (some ⟨o, 0, none⟩)]
  have hm := co_map_later (World.ownsMap_made w2 Try.prog 9 tokC) hA2
  have hz : (w2.alloc (.map #[] 0)).heap.size = w2.heap.size + 1 := by rw [World.size_alloc]
  rw [hz] at hbx
  have hbel := (HB2.out.trans (hA1.mono HB2.out.size)).trans (hA2.mono (Nat.le_trans HB2.out.size hA1.size))
  refine ⟨_, rfl, w2.heap.size, o, og, [], fun _ => .slice none 0 0, fun _ => zG, ⟨⟨hbx, hm, .nil⟩, ?_, HB2.out.size, fun e he => he, (fun e he => by cases he), (fun e he => by cases he), (fun e he => by cases he), (HO.out.later hA1).later hA2, ?_, hbel, by simp, (fun e he => by cases he), hs, hr⟩, fun x => rfl, rfl⟩
  · have := HB2.out.size; omega
  · have := H4.out; omega
section
variable {W w w' : World} {p : Nat} {k ss rb : Int} {st : List UInt8 → Option GD} {n : Nat} {O : List Of.KE}
set_option maxHeartbeats 4000000 in
set_option maxRecDepth 100000 in
theorem commit_x (h : Cx W p k ss rb st n O w) (s t : ByteArray) (i a : Int) : Calls Try.prog 12 #[.pointer (some ⟨p, 0, none⟩), .string s, .agg #[.string t, .int .i64 i], .int .i64 a] w (fun e w' => e = .returned (.int .i64 (Of.coR 1000 O ⟨s, t, i⟩ a)) ∧ Cx W p k ss rb st n (Of.coS 1000 O ⟨s, t, i⟩ a) w' ∧ ∀ b ty cs, Box w b ty cs → Box w' b ty cs) := by
  obtain ⟨g, o, og, F, V, D, h, h1, h2⟩ := h
  have hA : Below w.heap.size w (w.alloc (.cells #[.string t, .int .i64 i] 42)) := (Below.refl _ _).alloc (Nat.le_refl _) _
  have hd : Below w.heap.size w (w.alloc (.cells #[.string t, .int .i64 i] 42)).drew := hA.drew
  have h' := h.later hd
  have cc := Of.commit_v h'.ot ⟨s, t, i⟩ a
  obtain ⟨c0, c1, c2, c3, cl⟩ := (h.later hA).is.cells
  have hbx := Box.new w 42 #[.string t, .int .i64 i]
  have z0 := (hbx.cell 0).trans (show _ = some (Value.string t) from rfl)
  have z1 := (hbx.cell 1).trans (show _ = some (Value.int .i64 i) from rfl)
  have hp : p ≠ og := box_ne_map h'.is.box h'.ot.is.map
  have hn : w.heap.size ≠ og := box_ne_map (w := (w.alloc (.cells #[.string t, .int .i64 i] 42)).drew) hbx.drew h'.ot.is.map
  have HK : Hid (∀ w', Of.Wr W o og 1000 (Of.coS 1000 O ⟨s, t, i⟩ a) (w.alloc (.cells #[.string t, .int .i64 i] 42)).drew w' → w'.cell? ⟨p, 3, none⟩ = some (.pointer (some ⟨o, 0, none⟩)) ∧ w'.cell? ⟨w.heap.size, 0, none⟩ = some (.string t) ∧ w'.cell? ⟨w.heap.size, 1, none⟩ = some (.int .i64 i)) := Lib.hid (fun w' hw => ⟨(hw.off.cell (p := ⟨p, 3, none⟩) cl hp).trans c3, (hw.off.cell (p := ⟨w.heap.size, 0, none⟩) hbx.lt hn).trans z0, (hw.off.cell (p := ⟨w.heap.size, 1, none⟩) hbx.lt hn).trans z1⟩)
  have HC := Lib.hid h'
  have HD := Lib.hid hd
  have H1 := Lib.hid h1
  have H2 := Lib.hid h2
  clear h hA hd h' hbx h1 h2 c0 c1 c2
  go_enter Try.func12, Try.ntmps12
  go_wp2_with fail
  go_region_held3 (fun wq => wq.cell? ⟨p, 3, none⟩ = some (.pointer (some ⟨o, 0, none⟩)) ∧ wq.cell? ⟨w.heap.size, 0, none⟩ = some (.string t) ∧ wq.cell? ⟨w.heap.size, 1, none⟩ = some (.int .i64 i))
    (first | exact ⟨c3, z0, z1⟩ | exact HK.out _ (by assumption))
    (first | ((with_reducible refine cc.mono ?_); rintro en w3 ⟨rfl, hw3⟩))
  all_goals
    have HW : Hid (Cx W p k ss rb st n (Of.coS 1000 O ⟨s, t, i⟩ a) w3) := Lib.hid ⟨g, o, og, F, V, D, HC.out.offs (by assumption), H1.out, H2.out⟩
    have HWB : Hid (∀ b ty cs, Box w b ty cs → Box w3 b ty cs) := Lib.hid (fun b ty cs hb => by
      have hb2 := hb.later HD.out
      exact hb2.off hw3.off (box_ne_map hb2 HC.out.ot.is.map))
    clear hw3 cc
    go_wp2_with fail
    go_ret
    exact ⟨rfl, HW.out, HWB.out⟩
set_option maxHeartbeats 4000000 in
set_option maxRecDepth 100000 in
theorem committed_x (h : Cx W p k ss rb st n O w) (s t : ByteArray) (i : Int) (hk : Of.KyOk ⟨s, t, i⟩) : Calls Try.prog 13 #[.pointer (some ⟨p, 0, none⟩), .string s, .agg #[.string t, .int .i64 i]] w (fun e w' => e = .returned (.tuple #[.int .i64 (Of.geR O ⟨s, t, i⟩).1, .bool (Of.geR O ⟨s, t, i⟩).2]) ∧ Below w.heap.size w w') := by
  obtain ⟨g, o, og, F, V, D, h, h1, h2⟩ := h
  have hA : Below w.heap.size w (w.alloc (.cells #[.string t, .int .i64 i] 42)) := (Below.refl _ _).alloc (Nat.le_refl _) _
  have hd : Below w.heap.size w (w.alloc (.cells #[.string t, .int .i64 i] 42)).drew := hA.drew
  have cc := Of.get_v (h.later hd).ot ⟨s, t, i⟩ hk
  obtain ⟨c0, c1, c2, c3, cl⟩ := (h.later hA).is.cells
  have hbx := Box.new w 42 #[.string t, .int .i64 i]
  have z0 := (hbx.cell 0).trans (show _ = some (Value.string t) from rfl)
  have z1 := (hbx.cell 1).trans (show _ = some (Value.int .i64 i) from rfl)
  have HK : Hid (∀ w', Below (w.alloc (.cells #[.string t, .int .i64 i] 42)).drew.heap.size (w.alloc (.cells #[.string t, .int .i64 i] 42)).drew w' → w'.cell? ⟨p, 3, none⟩ = some (.pointer (some ⟨o, 0, none⟩)) ∧ w'.cell? ⟨w.heap.size, 0, none⟩ = some (.string t) ∧ w'.cell? ⟨w.heap.size, 1, none⟩ = some (.int .i64 i)) := Lib.hid (fun w' hw => ⟨(hw.cell (p := ⟨p, 3, none⟩) cl).trans c3, (hw.cell (p := ⟨w.heap.size, 0, none⟩) hbx.lt).trans z0, (hw.cell (p := ⟨w.heap.size, 1, none⟩) hbx.lt).trans z1⟩)
  have HD := Lib.hid hd
  clear h hA hd hbx h1 h2 c0 c1 c2
  go_enter Try.func13, Try.ntmps13
  go_wp2_with fail
  go_region_held3 (fun wq => wq.cell? ⟨p, 3, none⟩ = some (.pointer (some ⟨o, 0, none⟩)) ∧ wq.cell? ⟨w.heap.size, 0, none⟩ = some (.string t) ∧ wq.cell? ⟨w.heap.size, 1, none⟩ = some (.int .i64 i))
    (first | exact ⟨c3, z0, z1⟩ | exact HK.out _ (by assumption))
    (first | ((with_reducible refine cc.mono ?_); rintro en w3 ⟨rfl, hw3⟩))
  all_goals
    have HW : Hid (Below w.heap.size w w3) := Lib.hid (HD.out.trans (hw3.mono HD.out.size))
    clear hw3 cc
    go_wp2_with fail
    go_ret2
    exact ⟨rfl, HW.out⟩
end
end Go.Proofs.Ytlokhhjhckiloaa
