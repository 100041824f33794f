/- The program's Decode by a contract. -/
import Derived.Test.YtmhamfhhojmeoaaDoorRecDec
import Derived.RegionTactic
import Derived.ChangeAlike
namespace Go.Proofs.YtmhamfhhojmeoaaDoor
open Go.RowKit
set_option linter.unusedVariables false
/-- What Decode leaves: a record, the place behind it, an error; its headers are new memory. -/
def GotDec (W : World) (r : Rec) (q e : Int) (en : Ending) (w' : World) : Prop :=
  ∃ A c, en = .returned (.tuple #[recV r A c, .int .i64 q, .int .i64 e]) ∧ w'.ownsRow W.heap.size 51 2 (.slice A r.heads.length c) r.heads.length (headCells r.heads) ∧ Below W.heap.size W w'
theorem dec_result {w : World} (g : Nat) {v0 v1 v2 v3 v4 v5 v6 x y : Value} (h : Box w g 49 #[v0, v1, v2, v3, v4, v5, v6]) (tmps : Array Value) (ht : (tmps[4]?).getD undef = .pointer (some ⟨g, 0, none⟩)) (h5 : (tmps[5]?).getD undef = x) (h6 : (tmps[6]?).getD undef = y) :
    (results Tryd.f53 tmps).run Tryd.prog w = .ok (.tuple #[.agg #[v0, v1, v2, v3, v4, v5, v6], x, y]) w := by
  have c0 := (h.cell 0).trans (show _ = some v0 from rfl)
  have c1 := (h.cell 1).trans (show _ = some v1 from rfl)
  have c2 := (h.cell 2).trans (show _ = some v2 from rfl)
  have c3 := (h.cell 3).trans (show _ = some v3 from rfl)
  have c4 := (h.cell 4).trans (show _ = some v4 from rfl)
  have c5 := (h.cell 5).trans (show _ = some v5 from rfl)
  have c6 := (h.cell 6).trans (show _ = some v6 from rfl)
  simp [results, Tryd.results53, go_sem, ht, h5, h6, c0, c1, c2, c3, c4, c5, c6]
set_option maxHeartbeats 4000000 in
set_option maxRecDepth 100000 in
theorem pdec_c (s : ByteArray) (p : Int) (W : World) (hs : s.size ≤ 1152921504606846976) :
    Calls Tryd.prog 53 #[.string s, .int .i64 p] W (GotDec W (decR s p).1 (decR s p).2.1 (decR s p).2.2) := by
  have hr := fun b w hx => precord_c s p b w hs hx
  have hd := dec_last s p
  generalize rdRecP s p = R at *
  generalize (rdHeads s p).2.1 = q at *
  generalize lastE s p = le at *
  generalize decR s p = D at *
  by_cases hle : le = 0
  · subst hle
    rw [if_pos rfl] at hd
    have HD := Lib.hid hd
    clear hd
    go_enter Tryd.func53, Tryd.ntmps53
    go_wp2_with fail
    have HB0 := Lib.hid (show Box ((W.alloc (.cells #[.int .i64 0, .int .i64 0, .bool false, .string ⟨#[]⟩, .bool false, .string ⟨#[]⟩, .slice none 0 0] 49)).alloc (.cells (rdC s p 0) 101)) (W.heap.size + 1) 101 (rdC s p 0) by
      have h := Box.new (W.alloc (.cells #[.int .i64 0, .int .i64 0, .bool false, .string ⟨#[]⟩, .bool false, .string ⟨#[]⟩, .slice none 0 0] 49)) 101 (rdC s p 0)
      simpa using h)
    unfold rdC at HB0
    (with_reducible refine (hr _ _ HB0.out).mono ?_)
    rintro en w1 ⟨A, c, rfl, hh, hb, ho⟩
    have HH := Lib.hid (own_base hh (by simp : W.heap.size + 1 ≤ _))
    have HB1 := Lib.hid hb
    have HO1 := Lib.hid ho
    clear hh hb ho hr
    obtain ⟨place, time, bare, key, gone, value, heads⟩ := R
    unfold recV recC
    simp only at *
    have c2 := (HB1.out.alloc (.cells #[.int .i64 place, .int .i64 time, .bool bare, .string key, .bool gone, .string value, .slice A heads.length c] 49)).rd0
    obtain ⟨d0, d1, d2, _, _⟩ := c2
    have HR1 := Lib.hid ((((Box.new W 49 #[.int .i64 0, .int .i64 0, .bool false, .string ⟨#[]⟩, .bool false, .string ⟨#[]⟩, .slice none 0 0]).alloc (.cells #[.string s, .int .i64 p, .int .i64 0] 101)).off HO1.out (Nat.ne_of_lt (Nat.lt_succ_self _))).alloc (.cells #[.int .i64 place, .int .i64 time, .bool bare, .string key, .bool gone, .string value, .slice A heads.length c] 49))
    have r0 : (w1.alloc (.cells #[.int .i64 place, .int .i64 time, .bool bare, .string key, .bool gone, .string value, .slice A heads.length c] 49)).cell? ⟨W.heap.size, 0, none⟩ = some (.int .i64 0) := (HR1.out.cell 0).trans rfl
    have f0 := HR1.out.frozen 0
    have r1 : (w1.alloc (.cells #[.int .i64 place, .int .i64 time, .bool bare, .string key, .bool gone, .string value, .slice A heads.length c] 49)).cell? ⟨W.heap.size, 1, none⟩ = some (.int .i64 0) := (HR1.out.cell 1).trans rfl
    have f1 := HR1.out.frozen 1
    have r2 : (w1.alloc (.cells #[.int .i64 place, .int .i64 time, .bool bare, .string key, .bool gone, .string value, .slice A heads.length c] 49)).cell? ⟨W.heap.size, 2, none⟩ = some (.bool false) := (HR1.out.cell 2).trans rfl
    have f2 := HR1.out.frozen 2
    have r3 : (w1.alloc (.cells #[.int .i64 place, .int .i64 time, .bool bare, .string key, .bool gone, .string value, .slice A heads.length c] 49)).cell? ⟨W.heap.size, 3, none⟩ = some (.string ⟨#[]⟩) := (HR1.out.cell 3).trans rfl
    have f3 := HR1.out.frozen 3
    have r4 : (w1.alloc (.cells #[.int .i64 place, .int .i64 time, .bool bare, .string key, .bool gone, .string value, .slice A heads.length c] 49)).cell? ⟨W.heap.size, 4, none⟩ = some (.bool false) := (HR1.out.cell 4).trans rfl
    have f4 := HR1.out.frozen 4
    have r5 : (w1.alloc (.cells #[.int .i64 place, .int .i64 time, .bool bare, .string key, .bool gone, .string value, .slice A heads.length c] 49)).cell? ⟨W.heap.size, 5, none⟩ = some (.string ⟨#[]⟩) := (HR1.out.cell 5).trans rfl
    have f5 := HR1.out.frozen 5
    have r6 : (w1.alloc (.cells #[.int .i64 place, .int .i64 time, .bool bare, .string key, .bool gone, .string value, .slice A heads.length c] 49)).cell? ⟨W.heap.size, 6, none⟩ = some (.slice none 0 0) := (HR1.out.cell 6).trans rfl
    have f6 := HR1.out.frozen 6
    have hlt : W.heap.size + 1 < w1.heap.size := HB1.out.lt
    have HOW := Lib.hid (own_base (B := W.heap.size) (own_off (own_off (own_below HH.out ((Below.refl _ _).alloc (Nat.le_refl _) (.cells #[.int .i64 place, .int .i64 time, .bool bare, .string key, .bool gone, .string value, .slice A heads.length c] 49))) (set7_off _ W.heap.size (.int .i64 place) (.int .i64 time) (.bool bare) (.string key) (.bool gone) (.string value) (.slice A heads.length c)) (fun k hk e => by have := (HH.out.lt k hk).1; omega)) ((Off.refl (fun _ => False) _).drew) (fun _ _ x => x)) (Nat.le_succ _))
    have HOF : Hid (Off (fun k => k = W.heap.size + 1 ∨ k = W.heap.size) W (w1.alloc (.cells #[.int .i64 place, .int .i64 time, .bool bare, .string key, .bool gone, .string value, .slice A heads.length c] 49))) := Lib.hid ((((((Off.refl (fun k => k = W.heap.size + 1 ∨ k = W.heap.size) W).alloc _).alloc _).trans HO1.out (fun _ _ x => .inl x))).alloc _)
    go_wp2
    go_region
    go_wp2
    refine bodyPost_ret (v := .tuple #[.agg #[.int .i64 place, .int .i64 time, .bool bare, .string key, .bool gone, .string value, .slice A heads.length c], .int .i64 q, .int .i64 0]) ?_ rfl ?_
    · exact dec_result (W.heap.size) ((set7_box HR1.out _ _ _ _ _ _ _).drew) _ rfl rfl rfl
    · refine ⟨A, c, by rw [HD.out]; rfl, by rw [HD.out]; exact HOW.out, ?_⟩
      exact ((HOF.out.trans (set7_off _ W.heap.size _ _ _ _ _ _ _) (fun _ _ x => .inr x)).drew).none (fun k hk => by rcases hk with rfl | rfl <;> omega)
  · rw [if_neg hle] at hd
    have HD := Lib.hid hd
    have e1' : (le == 0) = false := by rw [beq_eq_false_iff_ne]; exact hle
    have e2' : (le != 0) = true := by simpa using hle
    clear hd hle
    go_enter Tryd.func53, Tryd.ntmps53
    go_wp2_with fail
    have HB0 := Lib.hid (show Box ((W.alloc (.cells #[.int .i64 0, .int .i64 0, .bool false, .string ⟨#[]⟩, .bool false, .string ⟨#[]⟩, .slice none 0 0] 49)).alloc (.cells (rdC s p 0) 101)) (W.heap.size + 1) 101 (rdC s p 0) by
      have h := Box.new (W.alloc (.cells #[.int .i64 0, .int .i64 0, .bool false, .string ⟨#[]⟩, .bool false, .string ⟨#[]⟩, .slice none 0 0] 49)) 101 (rdC s p 0)
      simpa using h)
    unfold rdC at HB0
    (with_reducible refine (hr _ _ HB0.out).mono ?_)
    rintro en w1 ⟨A, c, rfl, hh, hb, ho⟩
    have HH := Lib.hid (own_base hh (by simp : W.heap.size + 1 ≤ _))
    have HB1 := Lib.hid hb
    have HO1 := Lib.hid ho
    clear hh hb ho hr
    obtain ⟨place, time, bare, key, gone, value, heads⟩ := R
    unfold recV recC
    simp only at *
    have c2 := (HB1.out.alloc (.cells #[.int .i64 place, .int .i64 time, .bool bare, .string key, .bool gone, .string value, .slice A heads.length c] 49)).rd0
    obtain ⟨d0, d1, d2, _, _⟩ := c2
    have HR1 := Lib.hid ((((Box.new W 49 #[.int .i64 0, .int .i64 0, .bool false, .string ⟨#[]⟩, .bool false, .string ⟨#[]⟩, .slice none 0 0]).alloc (.cells #[.string s, .int .i64 p, .int .i64 0] 101)).off HO1.out (Nat.ne_of_lt (Nat.lt_succ_self _))).alloc (.cells #[.int .i64 place, .int .i64 time, .bool bare, .string key, .bool gone, .string value, .slice A heads.length c] 49))
    have r0 : (w1.alloc (.cells #[.int .i64 place, .int .i64 time, .bool bare, .string key, .bool gone, .string value, .slice A heads.length c] 49)).cell? ⟨W.heap.size, 0, none⟩ = some (.int .i64 0) := (HR1.out.cell 0).trans rfl
    have f0 := HR1.out.frozen 0
    have r1 : (w1.alloc (.cells #[.int .i64 place, .int .i64 time, .bool bare, .string key, .bool gone, .string value, .slice A heads.length c] 49)).cell? ⟨W.heap.size, 1, none⟩ = some (.int .i64 0) := (HR1.out.cell 1).trans rfl
    have f1 := HR1.out.frozen 1
    have r2 : (w1.alloc (.cells #[.int .i64 place, .int .i64 time, .bool bare, .string key, .bool gone, .string value, .slice A heads.length c] 49)).cell? ⟨W.heap.size, 2, none⟩ = some (.bool false) := (HR1.out.cell 2).trans rfl
    have f2 := HR1.out.frozen 2
    have r3 : (w1.alloc (.cells #[.int .i64 place, .int .i64 time, .bool bare, .string key, .bool gone, .string value, .slice A heads.length c] 49)).cell? ⟨W.heap.size, 3, none⟩ = some (.string ⟨#[]⟩) := (HR1.out.cell 3).trans rfl
    have f3 := HR1.out.frozen 3
    have r4 : (w1.alloc (.cells #[.int .i64 place, .int .i64 time, .bool bare, .string key, .bool gone, .string value, .slice A heads.length c] 49)).cell? ⟨W.heap.size, 4, none⟩ = some (.bool false) := (HR1.out.cell 4).trans rfl
    have f4 := HR1.out.frozen 4
    have r5 : (w1.alloc (.cells #[.int .i64 place, .int .i64 time, .bool bare, .string key, .bool gone, .string value, .slice A heads.length c] 49)).cell? ⟨W.heap.size, 5, none⟩ = some (.string ⟨#[]⟩) := (HR1.out.cell 5).trans rfl
    have f5 := HR1.out.frozen 5
    have r6 : (w1.alloc (.cells #[.int .i64 place, .int .i64 time, .bool bare, .string key, .bool gone, .string value, .slice A heads.length c] 49)).cell? ⟨W.heap.size, 6, none⟩ = some (.slice none 0 0) := (HR1.out.cell 6).trans rfl
    have f6 := HR1.out.frozen 6
    have hlt : W.heap.size + 1 < w1.heap.size := HB1.out.lt
    have HOF : Hid (Off (fun k => k = W.heap.size + 1 ∨ k = W.heap.size) W (w1.alloc (.cells #[.int .i64 place, .int .i64 time, .bool bare, .string key, .bool gone, .string value, .slice A heads.length c] 49))) := Lib.hid ((((((Off.refl (fun k => k = W.heap.size + 1 ∨ k = W.heap.size) W).alloc _).alloc _).trans HO1.out (fun _ _ x => .inl x))).alloc _)
    go_wp2
    go_region
    go_wp2
    refine bodyPost_ret (v := .tuple #[.agg #[.int .i64 0, .int .i64 0, .bool false, .string ⟨#[]⟩, .bool false, .string ⟨#[]⟩, .slice none 0 0], .int .i64 0, .int .i64 le]) ?_ rfl ?_
    · exact dec_result (W.heap.size) ((set7_box HR1.out _ _ _ _ _ _ _).drew) _ rfl rfl rfl
    · refine ⟨none, 0, by rw [HD.out]; rfl, by rw [HD.out]; exact World.ownsRow_nil _ _ _ _, ?_⟩
      exact ((HOF.out.trans (set7_off _ W.heap.size _ _ _ _ _ _ _) (fun _ _ x => .inr x)).drew).none (fun k hk => by rcases hk with rfl | rfl <;> omega)
end Go.Proofs.YtmhamfhhojmeoaaDoor
