/- offsets: New, copied, by contracts. No condition but that the key may be. -/
import Derived.Test.YtlokhhjhckiloaaCOfM
import Derived.Test.YtlokhhjhckiloaaAsClone
namespace Go.Proofs.Ytlokhhjhckiloaa.Of
open Go.RowKit Go.Maps Go.ChangeMaps Go.WideMaps
set_option linter.unusedVariables false
theorem ky3 {w : World} {b : Nat} {v0 v1 v2 : Value} {t : TypeId} (h : Box w b t #[v0, v1, v2]) : w.cell? ⟨b, 0, none⟩ = some v0 ∧ w.cell? ⟨b, 1, none⟩ = some v1 ∧ w.cell? ⟨b, 2, none⟩ = some v2 ∧ b < w.heap.size ∧ w.frozen? ⟨b, 0, none⟩ = false ∧ w.frozen? ⟨b, 1, none⟩ = false ∧ w.frozen? ⟨b, 2, none⟩ = false :=
  ⟨(h.cell 0).trans rfl, (h.cell 1).trans rfl, (h.cell 2).trans rfl, h.lt, h.frozen 0, h.frozen 1, h.frozen 2⟩
theorem key_result {w : World} (g : Nat) {v0 v1 v2 : Value} (h : Box w g 68 #[v0, v1, v2]) (tmps : Array Value) (ht : (tmps[2]?).getD undef = .pointer (some ⟨g, 0, none⟩)) :
    (results Try.f45 tmps).run Try.prog w = .ok (.agg #[v0, v1, v2]) w := by
  have c0 := (h.cell 0).trans (show _ = some v0 from rfl)
  have c1 := (h.cell 1).trans (show _ = some v1 from rfl)
  have c2 := (h.cell 2).trans (show _ = some v2 from rfl)
  simp [results, Try.results45, go_sem, ht, c0, c1, c2]
set_option maxHeartbeats 4000000 in
set_option maxRecDepth 100000 in
theorem copied_c (k : KY) (W : World) (hg : k.g.size ≤ 281474976710656) (ht : k.t.size ≤ 281474976710656) :
    Calls Try.prog 45 #[.agg #[.string k.g, .string k.t, .int .i64 k.i]] W (Good W (.agg #[.string k.g, .string k.t, .int .i64 k.i])) := by
  have c1 := fun w => clone_c k.g w hg
  have c2 := fun w => clone_c k.t w ht
  have hb1 := Box.new W 68 #[.string k.g, .string k.t, .int .i64 k.i]
  have hB1 : Below W.heap.size W (W.alloc (.cells #[.string k.g, .string k.t, .int .i64 k.i] 68)) := (Below.refl _ _).alloc (Nat.le_refl _) _
  have hb2 := Box.new (W.alloc (.cells #[.string k.g, .string k.t, .int .i64 k.i] 68)) 68 #[.string ⟨#[]⟩, .string ⟨#[]⟩, .int .i64 0]
  rw [World.size_alloc] at hb2
  have hA2 : Below (W.alloc (.cells #[.string k.g, .string k.t, .int .i64 k.i] 68)).heap.size (W.alloc (.cells #[.string k.g, .string k.t, .int .i64 k.i] 68)) ((W.alloc (.cells #[.string k.g, .string k.t, .int .i64 k.i] 68)).alloc (.cells #[.string ⟨#[]⟩, .string ⟨#[]⟩, .int .i64 0] 68)) := (Below.refl _ _).alloc (Nat.le_refl _) _
  have H1 := Lib.hid (hb1.later hA2)
  have H2 := Lib.hid hb2
  have HB := Lib.hid (hB1.trans (hA2.mono (by simp)))
  obtain ⟨y0, y1, y2, yl, g0, g1, g2⟩ := ky3 (hb1.later hA2)
  clear hb1 hb2 hB1 hA2 hg ht
  go_enter Try.func45, Try.ntmps45
  go_wp2_with fail
  with_reducible refine (c1 _).mono ?_
  rintro en w1 ⟨rfl, hb⟩
  have hx1 := H1.out.later hb
  have hx2 := H2.out.later hb
  have hB := HB.out.trans (hb.mono HB.out.size)
  have HX1 := Lib.hid (hx1.set 0 (.string k.g))
  have HX2 := Lib.hid (hx2.far (p := ⟨W.heap.size, 0, none⟩) (by show W.heap.size + 1 ≠ W.heap.size; omega) (.string k.g))
  have HB1 := Lib.hid (hB.trans ((Off.one w1 ⟨W.heap.size, 0, none⟩ (.string k.g)).below hB.size (fun k hk => by have e : k = W.heap.size := hk; omega)))
  clear y0 y1 y2 yl g0 g1 g2 H1 H2 HB hb hx2 hB
  obtain ⟨y0, y1, y2, yl, g0, g1, g2⟩ := ky3 hx1
  clear hx1
  go_wp2_with fail
  with_reducible refine (c2 _).mono ?_
  generalize (w1.setCell ⟨W.heap.size, 0, none⟩ (.string k.g)) = w1' at *
  rintro en w2 ⟨rfl, hb⟩
  have hx1 := HX1.out.later hb
  have hx2 := HX2.out.later hb
  have hB := HB1.out.trans (hb.mono HB1.out.size)
  have HX3 := Lib.hid (hx1.set 1 (.string k.t))
  have HX4 := Lib.hid (hx2.far (p := ⟨W.heap.size, 1, none⟩) (by show W.heap.size + 1 ≠ W.heap.size; omega) (.string k.t))
  have HB2 := Lib.hid (hB.trans ((Off.one w2 ⟨W.heap.size, 1, none⟩ (.string k.t)).below hB.size (fun k hk => by have e : k = W.heap.size := hk; omega)))
  clear y0 y1 y2 yl g0 g1 g2 HX1 HX2 HB1 hb hx2 hB
  obtain ⟨y0, y1, y2, yl, g0, g1, g2⟩ := ky3 hx1
  clear hx1
  obtain ⟨z0, z1, z2, zl, _, _, _⟩ := ky3 HX3.out
  obtain ⟨u0, u1, u2, ul, f0, f1, f2⟩ := ky3 HX4.out
  go_wp2_with fail
  have hfin : Box ((((w2.setCell ⟨W.heap.size, 1, none⟩ (.string k.t)).setCell ⟨W.heap.size + 1, 0, none⟩ (.string k.g)).setCell ⟨W.heap.size + 1, 1, none⟩ (.string k.t)).setCell ⟨W.heap.size + 1, 2, none⟩ (.int .i64 k.i)) (W.heap.size + 1) 68 #[.string k.g, .string k.t, .int .i64 k.i] := ((HX4.out.set 0 (.string k.g)).set 1 (.string k.t)).set 2 (.int .i64 k.i)
  refine bodyPost_ret (v := .agg #[.string k.g, .string k.t, .int .i64 k.i]) ?_ rfl ?_
  · exact key_result _ hfin _ rfl
  clear hfin
  refine ⟨rfl, ?_⟩
  generalize (w2.setCell ⟨W.heap.size, 1, none⟩ (.string k.t)) = w3 at *
  have hz := HB2.out.size
  have o1 : Off (fun k => k = W.heap.size + 1) w3 (w3.setCell ⟨W.heap.size + 1, 0, none⟩ (.string k.g)) := Off.one w3 ⟨W.heap.size + 1, 0, none⟩ _
  have o2 := o1.set (p := ⟨W.heap.size + 1, 1, none⟩) (.inl (show W.heap.size + 1 = W.heap.size + 1 from rfl)) (.string k.t)
  have o3 := o2.set (p := ⟨W.heap.size + 1, 2, none⟩) (.inl (show W.heap.size + 1 = W.heap.size + 1 from rfl)) (.int .i64 k.i)
  exact HB2.out.trans (o3.below hz (fun k hk => by have e : k = W.heap.size + 1 := hk; omega))
theorem new_no (n : Int) (h : witB n 1 10000 = false) (W : World) : Calls Try.prog 15 #[.int .i64 n] W (fun e w' => e = .returned (.tuple #[.pointer none, .int .i64 1]) ∧ w' = W) := by
  have cw := fun w => within_c n 1 10000 w
  rw [h] at cw
  clear h
  go_enter Try.func15, Try.ntmps15
  go_wp2_with fail
  with_reducible refine (cw _).mono ?_
  rintro en w1 ⟨rfl, rfl⟩
  go_wp2_with fail
  go_ret2
  exact ⟨rfl, rfl⟩
theorem new_ok (n : Int) (h : witB n 1 10000 = true) (W : World) : Calls Try.prog 15 #[.int .i64 n] W (fun e w' => e = .returned (.tuple #[.pointer (some ⟨W.heap.size + 1, 0, none⟩), .int .i64 0]) ∧ w' = (W.alloc (.map #[] 0)).alloc (.cells #[.int .i64 n, .map (some W.heap.size)] 76)) := by
  have cw := fun w => within_c n 1 10000 w
  rw [h] at cw
  clear h
  have mk := fun w => make_map w
  go_enter Try.func15, Try.ntmps15
  go_wp2_with fail
  with_reducible refine (cw _).mono ?_
  rintro en w1 ⟨rfl, rfl⟩
  go_wp2_with fail
  go_ret2
  exact ⟨by first | rfl | simp, rfl⟩
end Go.Proofs.Ytlokhhjhckiloaa.Of
