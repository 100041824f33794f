/- Merged texts. What each proves is told at its head. -/
import Derived.Test.YtjnphajkoopkgaaGreatDoorUQ
import Derived.Test.YtjnphajkoopkgaaGreatDoorRTake
import Derived.BigQuiet
import Derived.Deep.QuietTactic
import Derived.Deep.RegionWith
import Derived.Test.YtjnphajkoopkgaaGreatDoorUD
import Derived.Deep.DeepCutAuto
/- The document's reader, method by method: what it returns, and what becomes of the reader. -/
namespace Go.Proofs.YtjnphajkoopkgaaGreatDoor
open Go.RowKit
set_option linter.unusedVariables false
set_option maxHeartbeats 2000000 in
set_option maxRecDepth 100000 in
theorem rrdn_c (s : ByteArray) (q e : Int) (b : Nat) (W : World) (hs : s.size ≤ 1152921504606846976) (h : Box W b 198 (rdC s q e)) :
    Calls Tryz.prog 146 #[.pointer (some ⟨b, 0, none⟩)] W (Moved W b 198 (.int .i64 (rdN s q e).1) s (rdN s q e).2.1 (rdN s q e).2.2) := by
  obtain ⟨c0, c1, c2, f1, f2⟩ := h.rd0
  by_cases he : e = 0
  · have hg := fun w => rget_c s q w hs
    have hr : rdN s q e = getG s q := by unfold rdN; rw [if_pos he]
    rw [hr]
    clear hr
    subst he
    have HB := Lib.hid h
    clear h
    generalize (getG s q).1 = n at *
    generalize (getG s q).2.1 = p at *
    generalize (getG s q).2.2 = er at *
    unfold Tri at hg
    go_enter Tryz.func146, Tryz.ntmps146
    go_wp2
    go_region_with (go_at_call 166; (with_reducible refine (hg _).mono ?_); rintro e w1 ⟨rfl, hb1⟩)
    all_goals
      have HB1 : Hid (Box w1 b 198 (rdC s q 0)) := Lib.hid (HB.out.drew.later hb1)
      obtain ⟨d0, d1, d2, g1, g2⟩ := HB1.out.rd0
      go_wp2
      go_ret
      exact ⟨rfl, rdC_set2 HB1.out, ((((Off.refl (· = b) W).drew).later hb1).set (.inl rfl) _).set (.inl rfl) _⟩
  · rw [rdN_err he]
    have HB := Lib.hid h
    have e1 : (e == 0) = false := by rw [beq_eq_false_iff_ne]; exact he
    have e2 : (e != 0) = true := by simpa using he
    clear h he
    go_enter Tryz.func146, Tryz.ntmps146
    go_wp2
    go_ret
    exact ⟨rfl, HB.out, Off.refl (· = b) W⟩
set_option maxHeartbeats 2000000 in
set_option maxRecDepth 100000 in
theorem rrdt_c (s : ByteArray) (q e m : Int) (b : Nat) (W : World) (hs : s.size ≤ 1152921504606846976) (h : Box W b 198 (rdC s q e)) :
    Calls Tryz.prog 167 #[.pointer (some ⟨b, 0, none⟩), .int .i64 m] W (Moved W b 198 (.string (rdT s m q e).1) s (rdT s m q e).2.1 (rdT s m q e).2.2) := by
  obtain ⟨c0, c1, c2, f1, f2⟩ := h.rd0
  by_cases he : e = 0
  · have hg := fun w => rtake_c s q m w hs
    have hr : rdT s m q e = takeG s q m := by unfold rdT; rw [if_pos he]
    rw [hr]
    clear hr
    subst he
    have HB := Lib.hid h
    clear h
    generalize (takeG s q m).1 = n at *
    generalize (takeG s q m).2.1 = p at *
    generalize (takeG s q m).2.2 = er at *
    unfold Sri at hg
    go_enter Tryz.func167, Tryz.ntmps167
    go_wp2
    go_region_with (go_at_call 177; (with_reducible refine (hg _).mono ?_); rintro e w1 ⟨rfl, hb1⟩)
    all_goals
      have HB1 : Hid (Box w1 b 198 (rdC s q 0)) := Lib.hid (HB.out.drew.later hb1)
      obtain ⟨d0, d1, d2, g1, g2⟩ := HB1.out.rd0
      go_wp2
      go_ret
      exact ⟨rfl, rdC_set2 HB1.out, ((((Off.refl (· = b) W).drew).later hb1).set (.inl rfl) _).set (.inl rfl) _⟩
  · rw [rdT_err he]
    have HB := Lib.hid h
    have e1 : (e == 0) = false := by rw [beq_eq_false_iff_ne]; exact he
    have e2 : (e != 0) = true := by simpa using he
    clear h he
    go_enter Tryz.func167, Tryz.ntmps167
    go_wp2
    go_ret
    exact ⟨rfl, HB.out, Off.refl (· = b) W⟩
end Go.Proofs.YtjnphajkoopkgaaGreatDoor
/- The document's Decode of a record by a contract. -/
namespace Go.Proofs.YtjnphajkoopkgaaGreatDoor
open Go.RowKit
set_option linter.unusedVariables false
theorem rdMany_range (s : ByteArray) (p : Int) : -9223372036854775808 ≤ (rdMany s p).1 ∧ (rdMany s p).1 ≤ 9223372036854775807 := by
 unfold rdMany
 generalize (rdValue s p).2.1 = q
 generalize (rdValue s p).2.2 = e
 by_cases c : (rdN s q e).2.2 = 0
 ·
  exact (rdN_ok c).2.2
 ·
  unfold rdN at c ⊢
  split
  ·
   rename_i h0; rw [if_pos h0] at c; rw [(getG_err c).1]; decide
  ·
   simp
theorem rdRec_in (s : ByteArray) (p : Int) {w : World} {A : Option Addr} {c : Nat} (h : HIn w A (rdHeads s p).1) : RIn w (rdRec s p) A c :=
 ⟨h, by have := rdHeads_len s p; show (rdHeads s p).1.length ≤ _; omega, by have := rdT_size s (rdMark s p).2.1 (rdMark s p).2.2; show (rdT s 1000 _ _).1.size ≤ _; omega,
  by have := rdT_size s (rdKey s p).2.1 (rdKey s p).2.2; show (rdT s 1000 _ _).1.size ≤ _; omega, fun x hx => by have := rdH_each s _ _ _ x hx; omega⟩
theorem decR_out {s : ByteArray} {p : Int} (h : p < 0 ∨ (s.size : Int) < p) : decR s p = (recZero, 0, 1) := by
 have h1 : rdPlace s p = (0, 0, 1) := by unfold rdPlace rdN getG; rw [if_pos rfl, if_pos h]
 have h2 : rdTime s p = (0, 0, 1) := by unfold rdTime; rw [h1]; exact rdN_err (by decide)
 have h3 : rdMark s p = (0, 0, 1) := by unfold rdMark; rw [h2]; exact rdN_err (by decide)
 have h4 : rdKey s p = (⟨#[]⟩, 0, 1) := by unfold rdKey; rw [h3]; exact rdT_err (by decide)
 have h5 : rdValue s p = (⟨#[]⟩, 0, 1) := by unfold rdValue; rw [h4]; exact rdT_err (by decide)
 have h6 : rdMany s p = (0, 0, 1) := by unfold rdMany; rw [h5]; exact rdN_err (by decide)
 have h7 : rdHeads s p = ([], 0, 1) := by unfold rdHeads; rw [h6]; exact rdH_err (by decide)
 unfold decR
 rw [h7, if_pos (by decide)]
set_option maxHeartbeats 4000000 in
set_option maxRecDepth 100000 in
theorem rdec_out (s : ByteArray) (p : Int) (W : World) (hs : s.size ≤ 1152921504606846976) (h : p < 0 ∨ (s.size : Int) < p) :
  Calls Tryz.prog 147 #[.string s, .int .i64 p] W (GotDec W recZero 0 1) := by
 have hRZ : Hid (recZero = ⟨0, 0, false, ⟨#[]⟩, false, ⟨#[]⟩, []⟩) := Lib.hid rfl
 generalize recZero = R at *
 have hd : (p < 0 ∧ (decide (p < 0) = true)) ∨ (0 ≤ p ∧ decide ((s.size : Int) < p) = true ∧ (s.size : Int) < p) := by
  rcases h with h | h
  ·
   exact .inl ⟨h, decide_eq_true h⟩
  ·
   exact .inr ⟨by omega, decide_eq_true h, h⟩
 clear h
 rcases hd with ⟨g1, g2⟩ | ⟨g0, g1, g2⟩
 all_goals
  go_enter Tryz.func147, Tryz.ntmps147
  go_wp2
  refine bodyPost_ret (v := .tuple #[.agg #[.int .i64 0, .int .i64 0, .bool false, .string ⟨#[]⟩, .bool false, .string ⟨#[]⟩, .slice none 0 0], .int .i64 0, .int .i64 1]) (by simp [results, Tryz.results147, go_sem]) rfl ⟨none, 0, by rw [hRZ.out]; rfl, by rw [hRZ.out]; exact World.ownsRow_nil _ _ _ _, (Below.refl _ _).alloc (Nat.le_refl _) _⟩
/-- The reader, the record that is being filled, and the result's block, all of the call's own. -/
structure RDAt (W : World) (s : ByteArray) (q e : Int) (cs : Array Value) (w : World) : Prop where
 rd : Box w (W.heap.size + 1) 198 (rdC s q e)
 bx : Box w (W.heap.size + 1 + 1) 85 cs
 rs : Box w W.heap.size 85 #[.int .i64 0, .int .i64 0, .bool false, .string ⟨#[]⟩, .bool false, .string ⟨#[]⟩, .slice none 0 0]
 bel : Below W.heap.size W w
theorem RDAt.moved {W w w' : World} {s : ByteArray} {q e q' e' : Int} {cs : Array Value} (h : RDAt W s q e cs w) (hb : Box w' (W.heap.size + 1) 198 (rdC s q' e')) (ho : Off (· = W.heap.size + 1) w w') : RDAt W s q' e' cs w' :=
 ⟨hb, h.bx.off ho (by omega), h.rs.off ho (by omega), h.bel.trans (ho.below h.bel.size (fun k hk => by omega))⟩
theorem RDAt.set {W w : World} {s : ByteArray} {q e : Int} {cs : Array Value} (h : RDAt W s q e cs w) (i : Nat) (u : Value) : RDAt W s q e (cs.setIfInBounds i u) (w.setCell ⟨W.heap.size + 1 + 1, i, none⟩ u) :=
 ⟨h.rd.far (by show W.heap.size + 1 ≠ W.heap.size + 1 + 1; omega) _, h.bx.set i u, h.rs.far (by show W.heap.size ≠ W.heap.size + 1 + 1; omega) _, h.bel.setCell (by show W.heap.size ≤ W.heap.size + 1 + 1; omega) _⟩
theorem RDAt.err {W w : World} {s : ByteArray} {q e : Int} {cs : Array Value} (h : RDAt W s q e cs w) (e' : Int) : RDAt W s q e' cs (w.setCell ⟨W.heap.size + 1, 2, none⟩ (.int .i64 e')) :=
 ⟨h.rd.set 2 _, h.bx.far (by show W.heap.size + 1 + 1 ≠ W.heap.size + 1; omega) _, h.rs.far (by show W.heap.size ≠ W.heap.size + 1; omega) _, h.bel.setCell (by show W.heap.size ≤ W.heap.size + 1; omega) _⟩
theorem RDAt.later {W w w' : World} {s : ByteArray} {q e : Int} {cs : Array Value} (h : RDAt W s q e cs w) (hb : Below w.heap.size w w') : RDAt W s q e cs w' :=
 ⟨h.rd.later hb, h.bx.later hb, h.rs.later hb, h.bel.trans (hb.mono h.bel.size)⟩
theorem RDAt.start (W : World) (s : ByteArray) (q e : Int) (cs : Array Value) : RDAt W s q e cs (((W.alloc (.cells #[.int .i64 0, .int .i64 0, .bool false, .string ⟨#[]⟩, .bool false, .string ⟨#[]⟩, .slice none 0 0] 85)).alloc (.cells (rdC s q e) 198)).alloc (.cells cs 85)) := by
 refine ⟨?_, ?_, (((Box.new W _ _).alloc _).alloc _), (((Below.refl _ _).alloc (Nat.le_refl _) _).alloc (by simp) _).alloc (by simp; omega) _⟩
 ·
  have h := (Box.new (W.alloc (.cells #[.int .i64 0, .int .i64 0, .bool false, .string ⟨#[]⟩, .bool false, .string ⟨#[]⟩, .slice none 0 0] 85)) 198 (rdC s q e)).alloc (.cells cs 85)
  simpa using h
 ·
  have h := Box.new ((W.alloc (.cells #[.int .i64 0, .int .i64 0, .bool false, .string ⟨#[]⟩, .bool false, .string ⟨#[]⟩, .slice none 0 0] 85)).alloc (.cells (rdC s q e) 198)) 85 cs
  simpa using h
theorem RDAt.grown {W w w' : World} {s : ByteArray} {q e : Int} {cs : Array Value} {row : Option Nat} (h : RDAt W s q e cs w) (hg : w.grownBy w' row) (h1 : ∀ k, row = some k → k ≠ W.heap.size + 1) (h2 : ∀ k, row = some k → k ≠ W.heap.size + 1 + 1) (h3 : ∀ k, row = some k → k ≠ W.heap.size) (h4 : ∀ k, row = some k → W.heap.size ≤ k) : RDAt W s q e cs w' :=
 ⟨(hg.block _ h.rd.lt (fun e => h1 _ e.symm rfl)).trans h.rd, (hg.block _ h.bx.lt (fun e => h2 _ e.symm rfl)).trans h.bx, (hg.block _ h.rs.lt (fun e => h3 _ e.symm rfl)).trans h.rs, h.bel.grown hg h.bel.size h4⟩
theorem rdec_result {w : World} (g : Nat) {v0 v1 v2 v3 v4 v5 v6 x y : Value} (h : Box w g 85 #[v0, v1, v2, v3, v4, v5, v6]) (tmps : Array Value) (ht : (tmps[4]?).getD undef = .pointer (some ⟨g, 0, none⟩)) (h5 : (tmps[5]?).getD undef = x) (h6 : (tmps[6]?).getD undef = y) :
  (results Tryz.f147 tmps).run Tryz.prog w = .ok (.tuple #[.agg #[v0, v1, v2, v3, v4, v5, v6], x, y]) w := by
 have c0 := (h.cell 0).trans (show _ = some v0 from rfl)
 have c1 := (h.cell 1).trans (show _ = some v1 from rfl)
 have c2 := (h.cell 2).trans (show _ = some v2 from rfl)
 have c3 := (h.cell 3).trans (show _ = some v3 from rfl)
 have c4 := (h.cell 4).trans (show _ = some v4 from rfl)
 have c5 := (h.cell 5).trans (show _ = some v5 from rfl)
 have c6 := (h.cell 6).trans (show _ = some v6 from rfl)
 simp [results, Tryz.results147, go_sem, ht, h5, h6, c0, c1, c2, c3, c4, c5, c6]
/-- Half way through the headers. -/
structure LoopAt (W : World) (s : ByteArray) (n q0 e0 a1 a2 : Int) (b0 : Bool) (a4 : ByteArray) (b1 : Bool) (a5 : ByteArray) (k : Nat) (wr : World) : Prop where
 ex : ∃ (hs : List Hd) (q e : Int) (v : Value), hs.length = k ∧ k ≤ n.toNat ∧ (e = 0 → 0 ≤ n ∧ n ≤ 10) ∧ RDAt W s q e #[.int .i64 a1, .int .i64 a2, .bool b0, .string a4, .bool b1, .string a5, v] wr ∧
  wr.ownsRow W.heap.size 87 2 v hs.length (headCells hs) ∧ rdH s n.toNat q0 e0 = (hs ++ (rdH s (n.toNat - k) q e).1, (rdH s (n.toNat - k) q e).2)
theorem LoopAt.start {W w : World} {s : ByteArray} {n q e a1 a2 : Int} {b0 b1 : Bool} {a4 a5 : ByteArray} (hsm : e = 0 → 0 ≤ n ∧ n ≤ 10) (h : RDAt W s q e #[.int .i64 a1, .int .i64 a2, .bool b0, .string a4, .bool b1, .string a5, .slice none 0 0] w) : LoopAt W s n q e a1 a2 b0 a4 b1 a5 0 w :=
 ⟨[], q, e, _, rfl, Nat.zero_le _, hsm, h, World.ownsRow_nil _ _ _ _, by simp⟩
theorem LoopAt.step {W w3 : World} {s : ByteArray} {n q0 e0 q q2 e2 a1 a2 : Int} {b0 b1 : Bool} {a4 a5 x1 x2 : ByteArray} {k : Nat} {hs0 : List Hd} {v v' : Value} (hl : hs0.length = k) (hk : k < n.toNat) (hsm : (0 : Int) = 0 → 0 ≤ n ∧ n ≤ 10)
  (h : RDAt W s q2 e2 #[.int .i64 a1, .int .i64 a2, .bool b0, .string a4, .bool b1, .string a5, v] w3) (hown : w3.ownsRow W.heap.size 87 2 v' (hs0.length + 1) (headCells hs0 ++ [.string x1, .string x2]))
  (hall : rdH s n.toNat q0 e0 = (hs0 ++ (rdH s (n.toNat - k) q 0).1, (rdH s (n.toNat - k) q 0).2)) (hn : rdH s (n.toNat - k) q 0 = ((x1, x2) :: (rdH s (n.toNat - (k + 1)) q2 e2).1, (rdH s (n.toNat - (k + 1)) q2 e2).2)) :
  LoopAt W s n q0 e0 a1 a2 b0 a4 b1 a5 (k + 1) (w3.setCell ⟨W.heap.size + 1 + 1, 6, none⟩ v') :=
 ⟨hs0 ++ [(x1, x2)], q2, e2, v', by simpa using hl, hk, fun _ => hsm rfl, h.set 6 v', (own_set (by rw [headCells_snoc, List.length_append]; exact hown) h.bx (by decide) 6 v').1, by rw [hall, hn]; simp⟩
set_option maxHeartbeats 4000000 in
set_option maxRecDepth 100000 in
theorem rdec_in (s : ByteArray) (p : Nat) (W : World) (hs : s.size ≤ 1152921504606846976) (hp : p ≤ s.size) :
  Calls Tryz.prog 147 #[.string s, .int .i64 p] W (GotDec W (decR s p).1 (decR s p).2.1 (decR s p).2.2) := by
 have n1 : ∀ b w, Box w b 198 (rdC s p 0) → Calls _ _ _ w (Moved w b 198 (.int .i64 (rdPlace s p).1) s (rdPlace s p).2.1 (rdPlace s p).2.2) := fun b w hx => rrdn_c s p 0 b w hs hx
 have n2 : ∀ b w, Box w b 198 (rdC s (rdPlace s p).2.1 (rdPlace s p).2.2) → Calls _ _ _ w (Moved w b 198 (.int .i64 (rdTime s p).1) s (rdTime s p).2.1 (rdTime s p).2.2) := fun b w hx => rrdn_c s _ _ b w hs hx
 have n3 : ∀ b w, Box w b 198 (rdC s (rdTime s p).2.1 (rdTime s p).2.2) → Calls _ _ _ w (Moved w b 198 (.int .i64 (rdMark s p).1) s (rdMark s p).2.1 (rdMark s p).2.2) := fun b w hx => rrdn_c s _ _ b w hs hx
 have n4 : ∀ b w, Box w b 198 (rdC s (rdMark s p).2.1 (rdMark s p).2.2) → Calls _ _ _ w (Moved w b 198 (.string (rdKey s p).1) s (rdKey s p).2.1 (rdKey s p).2.2) := fun b w hx => rrdt_c s _ _ 1000 b w hs hx
 have n5 : ∀ b w, Box w b 198 (rdC s (rdKey s p).2.1 (rdKey s p).2.2) → Calls _ _ _ w (Moved w b 198 (.string (rdValue s p).1) s (rdValue s p).2.1 (rdValue s p).2.2) := fun b w hx => rrdt_c s _ _ 1000 b w hs hx
 have n6 : ∀ b w, Box w b 198 (rdC s (rdValue s p).2.1 (rdValue s p).2.2) → Calls _ _ _ w (Moved w b 198 (.int .i64 (rdMany s p).1) s (rdMany s p).2.1 (rdMany s p).2.2) := fun b w hx => rrdn_c s _ _ b w hs hx
 have HD : Hid (decR s p = if (rdHeads s p).2.2 ≠ 0 then (recZero, 0, (rdHeads s p).2.2) else if (decide (0 ≤ (rdMark s p).1 ∧ (rdMark s p).1 ≤ 3) && okRec (rdRec s p)) = true then (rdRec s p, (rdHeads s p).2.1, 0) else (recZero, 0, 3)) := Lib.hid rfl
 have HH : Hid (rdHeads s p = rdH s (rdMany s p).1.toNat (rdMany s p).2.1 (manyE (rdMany s p).1 (rdMany s p).2.2)) := Lib.hid rfl
 have HR : Hid (rdRec s p = ⟨(rdPlace s p).1, (rdTime s p).1, decide ((rdMark s p).1 = 1 ∨ (rdMark s p).1 = 3), (rdKey s p).1, decide ((rdMark s p).1 = 2 ∨ (rdMark s p).1 = 3), (rdValue s p).1, (rdHeads s p).1⟩) := Lib.hid rfl
 have hin := Lib.hid (fun w A c h => @rdRec_in s p w A c h)
 have hnr := Lib.hid (rdMany_range s p)
 generalize decR s p = D at *
 generalize rdRec s p = R at *
 generalize rdHeads s p = RH at *
 generalize (rdPlace s p).1 = a1 at *
 generalize (rdPlace s p).2.1 = p1 at *
 generalize (rdPlace s p).2.2 = e1 at *
 generalize (rdTime s p).1 = a2 at *
 generalize (rdTime s p).2.1 = p2 at *
 generalize (rdTime s p).2.2 = e2 at *
 generalize (rdMark s p).1 = a3 at *
 generalize (rdMark s p).2.1 = p3 at *
 generalize (rdMark s p).2.2 = e3 at *
 generalize (rdKey s p).1 = a4 at *
 generalize (rdKey s p).2.1 = p4 at *
 generalize (rdKey s p).2.2 = e4 at *
 generalize (rdValue s p).1 = a5 at *
 generalize (rdValue s p).2.1 = p5 at *
 generalize (rdValue s p).2.2 = e5 at *
 generalize (rdMany s p).1 = a6 at *
 generalize (rdMany s p).2.1 = p6 at *
 generalize (rdMany s p).2.2 = e6 at *
 have g1 : decide ((p : Int) < 0) = false := decide_eq_false (by omega)
 have g2 : (p : Int) ≤ (s.size : Int) := by omega
 have g3 : decide (s.size < p) = false := decide_eq_false (by omega)
 have H0 := Lib.hid (RDAt.start W s p 0 #[.int .i64 0, .int .i64 0, .bool false, .string ⟨#[]⟩, .bool false, .string ⟨#[]⟩, .slice none 0 0])
 unfold rdC at H0
 go_enter Tryz.func147, Tryz.ntmps147
 go_wp2_with fail
 (with_reducible refine (n1 _ _ H0.out.rd).mono ?_)
 rintro en w1 ⟨rfl, hx, ho⟩
 have M1 : Hid (RDAt W s p1 e1 #[.int .i64 0, .int .i64 0, .bool false, .string ⟨#[]⟩, .bool false, .string ⟨#[]⟩, .slice none 0 0] _) := Lib.hid (H0.out.moved hx ho)
 clear hx ho H0 n1
 have y := (M1.out.bx.cell 0).trans (show _ = some (Value.int .i64 0) from rfl)
 have z := M1.out.bx.frozen 0
 have H1 : Hid (RDAt W s p1 e1 #[.int .i64 a1, .int .i64 0, .bool false, .string ⟨#[]⟩, .bool false, .string ⟨#[]⟩, .slice none 0 0] _) := Lib.hid (M1.out.set 0 (.int .i64 a1))
 go_wp2_with fail
 clear y z M1
 (with_reducible refine (n2 _ _ H1.out.rd).mono ?_)
 rintro en w2 ⟨rfl, hx, ho⟩
 have M2 : Hid (RDAt W s p2 e2 #[.int .i64 a1, .int .i64 0, .bool false, .string ⟨#[]⟩, .bool false, .string ⟨#[]⟩, .slice none 0 0] _) := Lib.hid (H1.out.moved hx ho)
 clear hx ho H1 n2
 have y := (M2.out.bx.cell 1).trans (show _ = some (Value.int .i64 0) from rfl)
 have z := M2.out.bx.frozen 1
 have H2 : Hid (RDAt W s p2 e2 #[.int .i64 a1, .int .i64 a2, .bool false, .string ⟨#[]⟩, .bool false, .string ⟨#[]⟩, .slice none 0 0] _) := Lib.hid (M2.out.set 1 (.int .i64 a2))
 go_wp2_with fail
 clear y z M2
 (with_reducible refine (n3 _ _ H2.out.rd).mono ?_)
 rintro en w3 ⟨rfl, hx, ho⟩
 have M3 : Hid (RDAt W s p3 e3 #[.int .i64 a1, .int .i64 a2, .bool false, .string ⟨#[]⟩, .bool false, .string ⟨#[]⟩, .slice none 0 0] _) := Lib.hid (H2.out.moved hx ho)
 clear hx ho H2 n3
 have y2 := (M3.out.bx.cell 2).trans (show _ = some (Value.bool false) from rfl)
 have z2 := M3.out.bx.frozen 2
 have y4 := (M3.out.bx.cell 4).trans (show _ = some (Value.bool false) from rfl)
 have z4 := M3.out.bx.frozen 4
 obtain ⟨b0, hb0⟩ : ∃ b0, b0 = decide (a3 = 1 ∨ a3 = 3) := ⟨_, rfl⟩
 obtain ⟨b1, hb1⟩ : ∃ b1, b1 = decide (a3 = 2 ∨ a3 = 3) := ⟨_, rfl⟩
 rw [← hb0, ← hb1] at HR
 have HB0 := Lib.hid hb0
 have HB1 := Lib.hid hb1
 clear hb0 hb1
 have hc : (a3 = 1 ∧ b0 = true ∧ b1 = false) ∨ (a3 = 2 ∧ b0 = false ∧ b1 = true) ∨ (a3 = 3 ∧ b0 = true ∧ b1 = true) ∨ (a3 ≠ 1 ∧ a3 ≠ 2 ∧ a3 ≠ 3 ∧ b0 = false ∧ b1 = false) := by
  rw [HB0.out, HB1.out]
  by_cases q1 : a3 = 1
  ·
   subst q1; exact .inl ⟨rfl, rfl, rfl⟩
  ·
   by_cases q2 : a3 = 2
   ·
    subst q2; exact .inr (.inl ⟨rfl, rfl, rfl⟩)
   ·
    by_cases q3 : a3 = 3
    ·
     subst q3; exact .inr (.inr (.inl ⟨rfl, rfl, rfl⟩))
    ·
     exact .inr (.inr (.inr ⟨q1, q2, q3, decide_eq_false (by omega), decide_eq_false (by omega)⟩))
 have HC := Lib.hid hc
 clear hc y4 z4
 go_upto_region 8 with fail
 go_cut [] (fun w => RDAt W s p3 e3 #[.int .i64 a1, .int .i64 a2, .bool b0, .string ⟨#[]⟩, .bool false, .string ⟨#[]⟩, .slice none 0 0] w)
 case first =>
  have hF : Hid (RDAt W s p3 e3 #[.int .i64 a1, .int .i64 a2, .bool b0, .string ⟨#[]⟩, .bool false, .string ⟨#[]⟩, .slice none 0 0] (w3.setCell ⟨W.heap.size + 1 + 1, 2, none⟩ (.bool b0))) := Lib.hid (M3.out.set 2 (.bool b0))
  rcases HC.out with ⟨rfl, rfl, rfl⟩ | ⟨rfl, rfl, rfl⟩ | ⟨rfl, rfl, rfl⟩ | ⟨q1, q2, q3, rfl, rfl⟩
  ·
   go_wp2_with fail
   go_meet
   exact hF.out
  ·
   go_wp2_with fail
   go_meet
   exact hF.out
  ·
   go_wp2_with fail
   go_meet
   exact hF.out
  ·
   have k1 : (a3 == 1) = false := by rw [beq_eq_false_iff_ne]; exact q1
   have k3 : (a3 == 3) = false := by rw [beq_eq_false_iff_ne]; exact q3
   clear q1 q2 q3
   go_wp2_with fail
   go_meet
   exact hF.out
 case rest =>
  have h3 := hcut
  have H3 := Lib.hid h3
  clear h3 hcut M3 y2 z2
  have y4 := (H3.out.bx.cell 4).trans (show _ = some (Value.bool false) from rfl)
  have z4 := H3.out.bx.frozen 4
  go_upto_region 9 with fail
  go_cut [] (fun w => RDAt W s p3 e3 #[.int .i64 a1, .int .i64 a2, .bool b0, .string ⟨#[]⟩, .bool b1, .string ⟨#[]⟩, .slice none 0 0] w)
  case first =>
   have hF : Hid (RDAt W s p3 e3 #[.int .i64 a1, .int .i64 a2, .bool b0, .string ⟨#[]⟩, .bool b1, .string ⟨#[]⟩, .slice none 0 0] (wc.setCell ⟨W.heap.size + 1 + 1, 4, none⟩ (.bool b1))) := Lib.hid (H3.out.set 4 (.bool b1))
   rcases HC.out with ⟨rfl, rfl, rfl⟩ | ⟨rfl, rfl, rfl⟩ | ⟨rfl, rfl, rfl⟩ | ⟨q1, q2, q3, rfl, rfl⟩
   ·
    go_wp2_with fail
    go_meet
    exact hF.out
   ·
    go_wp2_with fail
    go_meet
    exact hF.out
   ·
    go_wp2_with fail
    go_meet
    exact hF.out
   ·
    have k2 : (a3 == 2) = false := by rw [beq_eq_false_iff_ne]; exact q2
    have k3 : (a3 == 3) = false := by rw [beq_eq_false_iff_ne]; exact q3
    clear q1 q2 q3
    go_wp2_with fail
    go_meet
    exact hF.out
  case rest =>
   have H4 := Lib.hid hcut
   clear hcut H3 y4 z4
   go_wp2_with fail
   (with_reducible refine (n4 _ _ H4.out.rd).mono ?_)
   rintro en w4 ⟨rfl, hx, ho⟩
   have M4 : Hid (RDAt W s p4 e4 #[.int .i64 a1, .int .i64 a2, .bool b0, .string ⟨#[]⟩, .bool b1, .string ⟨#[]⟩, .slice none 0 0] _) := Lib.hid (H4.out.moved hx ho)
   clear hx ho H4 n4
   have y := (M4.out.bx.cell 3).trans (show _ = some (Value.string ⟨#[]⟩) from rfl)
   have z := M4.out.bx.frozen 3
   have H5 : Hid (RDAt W s p4 e4 #[.int .i64 a1, .int .i64 a2, .bool b0, .string a4, .bool b1, .string ⟨#[]⟩, .slice none 0 0] _) := Lib.hid (M4.out.set 3 (.string a4))
   go_wp2_with fail
   clear y z M4
   (with_reducible refine (n5 _ _ H5.out.rd).mono ?_)
   rintro en w5 ⟨rfl, hx, ho⟩
   have M5 : Hid (RDAt W s p5 e5 #[.int .i64 a1, .int .i64 a2, .bool b0, .string a4, .bool b1, .string ⟨#[]⟩, .slice none 0 0] _) := Lib.hid (H5.out.moved hx ho)
   clear hx ho H5 n5
   have y := (M5.out.bx.cell 5).trans (show _ = some (Value.string ⟨#[]⟩) from rfl)
   have z := M5.out.bx.frozen 5
   have H6 : Hid (RDAt W s p5 e5 #[.int .i64 a1, .int .i64 a2, .bool b0, .string a4, .bool b1, .string a5, .slice none 0 0] _) := Lib.hid (M5.out.set 5 (.string a5))
   go_wp2_with fail
   clear y z M5
   (with_reducible refine (n6 _ _ H6.out.rd).mono ?_)
   rintro en w6 ⟨rfl, hx, ho⟩
   have H7 : Hid (RDAt W s p6 e6 #[.int .i64 a1, .int .i64 a2, .bool b0, .string a4, .bool b1, .string a5, .slice none 0 0] _) := Lib.hid (H6.out.moved hx ho)
   clear hx ho H6 n6
   obtain ⟨bad, hbad⟩ : ∃ bad, bad = decide (e6 = 0 ∧ ¬ (0 ≤ a6 ∧ a6 ≤ 10)) := ⟨_, rfl⟩
   have hm : manyE a6 e6 = if bad = true then 3 else e6 := by
    rw [hbad]
    unfold manyE
    by_cases q : e6 = 0 ∧ ¬ (0 ≤ a6 ∧ a6 ≤ 10)
    ·
     rw [if_pos q, decide_eq_true q]; rfl
    ·
     rw [if_neg q, decide_eq_false q]; rfl
   have hsmall : manyE a6 e6 = 0 → 0 ≤ a6 ∧ a6 ≤ 10 := fun h => by
    unfold manyE at h
    by_cases q : e6 = 0 ∧ ¬ (0 ≤ a6 ∧ a6 ≤ 10)
    ·
     rw [if_pos q] at h; cases h
    ·
     rw [if_neg q] at h; omega
   have HBD := Lib.hid hbad
   have HMM := Lib.hid hm
   have HSM := Lib.hid hsmall
   clear hbad hm hsmall
   obtain ⟨x0, x1, x2, x3, x4⟩ := H7.out.rd.rd0
   go_upto_region 13 with fail
   go_cut [10, 69] (fun n f w => n = .int .i64 a6 ∧ f = .bool bad ∧ w6 = w)
   case first =>
    have hq : (e6 ≠ 0 ∧ bad = false) ∨ (e6 = 0 ∧ a6 < 0 ∧ decide (a6 < 0) = true ∧ bad = true) ∨ (e6 = 0 ∧ 10 < a6 ∧ decide (a6 < 0) = false ∧ decide (10 < a6) = true ∧ bad = true) ∨ (e6 = 0 ∧ decide (a6 < 0) = false ∧ decide (10 < a6) = false ∧ bad = false) := by
     rw [HBD.out]
     by_cases q0 : e6 = 0
     ·
      by_cases q1 : a6 < 0
      ·
       exact .inr (.inl ⟨q0, q1, decide_eq_true q1, decide_eq_true ⟨q0, by omega⟩⟩)
      ·
       by_cases q2 : 10 < a6
       ·
        exact .inr (.inr (.inl ⟨q0, q2, decide_eq_false q1, decide_eq_true q2, decide_eq_true ⟨q0, by omega⟩⟩))
       ·
        exact .inr (.inr (.inr ⟨q0, decide_eq_false q1, decide_eq_false q2, decide_eq_false (by omega)⟩))
     ·
      exact .inl ⟨q0, decide_eq_false (fun x => q0 x.1)⟩
    rcases hq with ⟨q0, rfl⟩ | ⟨rfl, q1, q2, rfl⟩ | ⟨rfl, q1, q2, q3, rfl⟩ | ⟨rfl, q2, q3, rfl⟩
    ·
     have k1 : (e6 == 0) = false := by rw [beq_eq_false_iff_ne]; exact q0
     have k2 : (e6 != 0) = true := by simpa using q0
     clear q0
     go_wp2_with fail
     go_meet
     exact ⟨rfl, rfl, rfl⟩
    ·
     go_wp2_with fail
     go_meet
     exact ⟨rfl, rfl, rfl⟩
    ·
     go_wp2_with fail
     go_meet
     exact ⟨rfl, rfl, rfl⟩
    ·
     go_wp2_with fail
     go_meet
     exact ⟨rfl, rfl, rfl⟩
   case rest =>
    obtain ⟨rfl, rfl, rfl⟩ := hcut
    go_upto_if 69 with fail
    go_cut [] (fun w => RDAt W s p6 (manyE a6 e6) #[.int .i64 a1, .int .i64 a2, .bool b0, .string a4, .bool b1, .string a5, .slice none 0 0] w)
    case first =>
     have hF : Hid (RDAt W s p6 3 #[.int .i64 a1, .int .i64 a2, .bool b0, .string a4, .bool b1, .string a5, .slice none 0 0] (w6.setCell ⟨W.heap.size + 1, 2, none⟩ (.int .i64 3))) := Lib.hid (H7.out.err 3)
     have hm := HMM.out
     cases bad with
     | true =>
      go_wp2_with fail
      go_meet
      rw [hm]
      exact hF.out
     | false =>
      go_wp2_with fail
      go_meet
      rw [hm]
      exact H7.out
    case rest =>
     have H8 := Lib.hid hcut
     clear hcut H7 x0 x1 x2 x3 x4
     go_wp2_with fail
     have HL0 := Lib.hid (LoopAt.start (W := W) (n := a6) HSM.out H8.out)
     clear H8
     go_loopw [11, 12, 13] (fun i x y wr => ∃ k : Nat, i = .int .i64 k ∧ LoopAt W s a6 p6 (manyE a6 e6) a1 a2 b0 a4 b1 a5 k wr) (fun i _ _ _ => a6.toNat - (intOf i).toNat)
     case atStart => exact ⟨0, rfl, HL0.out⟩
     case round =>
      obtain ⟨k, rfl, hs0, q, e, v, hl, hkm, hsm, hrd, hown, hall⟩ := hrel
      clear HL0
      obtain ⟨c0, c1, c2, f1, f2⟩ := hrd.rd.rd0
      have HRD := Lib.hid hrd
      have HW := Lib.hid hown
      have HA := Lib.hid hall
      have HL := Lib.hid hl
      have HSM2 := Lib.hid hsm
      clear hrd hown hall hl hsm
      by_cases hgo : k < a6.toNat ∧ e = 0
      ·
       obtain ⟨hk, rfl⟩ := hgo
       have hk6 : (k : Int) < a6 := by omega
       have hm10 := HSM2.out rfl
       have ht1 := fun w hx => rrdt_c s q 0 1000 (W.heap.size + 1) w hs hx
       have ht2 := fun w hx => rrdt_c s (rdT s 1000 q 0).2.1 (rdT s 1000 q 0).2.2 1000 (W.heap.size + 1) w hs hx
       have HN : Hid (rdH s (a6.toNat - k) q 0 = (((rdT s 1000 q 0).1, (rdT s 1000 (rdT s 1000 q 0).2.1 (rdT s 1000 q 0).2.2).1) :: (rdH s (a6.toNat - (k + 1)) (rdT s 1000 (rdT s 1000 q 0).2.1 (rdT s 1000 q 0).2.2).2.1 (rdT s 1000 (rdT s 1000 q 0).2.1 (rdT s 1000 q 0).2.2).2.2).1, (rdH s (a6.toNat - (k + 1)) (rdT s 1000 (rdT s 1000 q 0).2.1 (rdT s 1000 q 0).2.2).2.1 (rdT s 1000 (rdT s 1000 q 0).2.1 (rdT s 1000 q 0).2.2).2.2).2)) :=
        Lib.hid (by rw [show a6.toNat - k = (a6.toNat - (k + 1)) + 1 by omega, rdH, if_pos rfl])
       generalize (rdT s 1000 q 0).1 = x1 at *
       generalize (rdT s 1000 q 0).2.1 = q1 at *
       generalize (rdT s 1000 q 0).2.2 = e2 at *
       generalize (rdT s 1000 q1 e2).1 = x2 at *
       generalize (rdT s 1000 q1 e2).2.1 = q2 at *
       generalize (rdT s 1000 q1 e2).2.2 = e3 at *
       go_wp2_with fail
       (with_reducible refine (ht1 _ HRD.out.rd).mono ?_)
       rintro en w7 ⟨rfl, hx, ho⟩
       have HW7 := Lib.hid (own_off HW.out ho (own_ne HW.out HRD.out.rd (by decide)))
       have HR7 := Lib.hid (HRD.out.moved hx ho)
       clear hx ho
       go_wp2_with fail
       (with_reducible refine (ht2 _ HR7.out.rd).mono ?_)
       rintro en w8 ⟨rfl, hx, ho⟩
       have HW8 := Lib.hid (own_off HW7.out ho (own_ne HW7.out HR7.out.rd (by decide)))
       have HR8 := Lib.hid (HR7.out.moved hx ho)
       clear hx ho HR7 HW7 ht1 ht2 HW HRD
       have y6 := (HR8.out.bx.cell 6).trans (show _ = some v from rfl)
       have z6 := HR8.out.bx.frozen 6
       obtain ⟨i0, hi, hz0, hz1, hz2⟩ := info_parts infoHeader
       go_wp2_with (at_builtin; refine wpList_append_own _ rfl _ _ 83 rfl W.heap.size 87 i0 (.agg #[.string ⟨#[]⟩, .string ⟨#[]⟩]) 2 32 Tryz.underlying83 hi hz0 hz1 hz2 rfl (by decide) _ _ _ rfl (HW8.out.alloc _) ⟨w8.heap.size, 0, none⟩ 1 1 [.string x1, .string x2] rfl rfl ?c1 ?c2 ?c3 ?c4 ?c5 ?_)
       case c1 => exact two_new _ _ _ _
       case c2 => simp [Value.oneCell']
       case c3 => have := HL.out; unfold maxLen; omega
       case c4 => have := HL.out; omega
       case c5 => have h1 := HR8.out.bel.size; simp; omega
       intro v' w9 hown3 hgrow _
       obtain ⟨A', c', hv'⟩ := own_slice hown3
       subst hv'
       have HR9 := Lib.hid ((HR8.out.later ((Below.refl _ _).alloc (Nat.le_refl _) (.cells #[.string x1, .string x2] 87))).grown hgrow (own_ne (HW8.out.alloc _) ((HR8.out.later ((Below.refl _ _).alloc (Nat.le_refl _) (.cells #[.string x1, .string x2] 87))).rd) (by decide)) (own_ne (HW8.out.alloc _) ((HR8.out.later ((Below.refl _ _).alloc (Nat.le_refl _) (.cells #[.string x1, .string x2] 87))).bx) (by decide)) (own_ne (HW8.out.alloc _) ((HR8.out.later ((Below.refl _ _).alloc (Nat.le_refl _) (.cells #[.string x1, .string x2] 87))).rs) (by decide)) (fun k hk => (HW8.out.lt k hk).1))
       have HOW := Lib.hid hown3
       clear hown3 hgrow y6 z6
       have y6 := (HR9.out.bx.cell 6).trans (show _ = some v from rfl)
       have z6 := HR9.out.bx.frozen 6
       have HST := Lib.hid (LoopAt.step HL.out hk (fun _ => hm10) HR9.out HOW.out HA.out HN.out)
       clear HOW HR9 HR8 HW8 HA HN HL HSM2
       go_wp2
       go_roundw
       case rel => exact ⟨k + 1, by go_num, HST.out⟩
       case measure => simp [intOf]; omega
      ·
       have HE : Hid (RH = (hs0, q, e)) := Lib.hid (by
        rw [HH.out, HA.out]
        by_cases h0 : e = 0
        ·
         rw [show a6.toNat - k = 0 by omega]; simp [rdH]
        ·
         rw [rdH_err h0]; simp)
       have hx : (¬ (k : Int) < a6) ∨ ((k : Int) < a6 ∧ (e == 0) = false ∧ (e != 0) = true) := by
        by_cases h0 : e = 0
        ·
         left; have := HSM2.out h0; omega
        ·
         by_cases h1 : (k : Int) < a6
         ·
          exact .inr ⟨h1, by rw [beq_eq_false_iff_ne]; exact h0, by simpa using h0⟩
         ·
          exact .inl h1
       clear hgo
       obtain ⟨A, c, hv⟩ := own_slice HW.out
       subst hv
       have hR : R = ⟨a1, a2, b0, a4, b1, a5, hs0⟩ := by rw [HR.out, HE.out]
       have HRR := Lib.hid hR
       clear hR
       have hck := fun w (hx : HIn w A hs0) => rcheck_c R A c w (hin.out w A c (by rw [HE.out]; exact hx))
       obtain ⟨rc, hrc⟩ : ∃ rc, rc = recE R := ⟨_, rfl⟩
       rw [← hrc, HRR.out] at hck
       try simp only at hck
       unfold recV recC at hck
       try simp only at hck
       have HRC := Lib.hid hrc
       clear hrc
       obtain ⟨bd, hbd⟩ : ∃ bd, bd = (decide (e = 0) && !(decide (0 ≤ a3 ∧ a3 ≤ 3) && okRec R)) := ⟨_, rfl⟩
       have HBD2 := Lib.hid hbd
       clear hbd
       rcases hx with hx | ⟨hx1, hx2, hx3⟩
       all_goals
        go_upto_region 21 with fail
        go_cut [114] (fun f w => f = .bool bd ∧ RDAt W s q e #[.int .i64 a1, .int .i64 a2, .bool b0, .string a4, .bool b1, .string a5, .slice A hs0.length c] w ∧ w.ownsRow W.heap.size 87 2 (.slice A hs0.length c) hs0.length (headCells hs0))
        case first =>
         by_cases he : e = 0
         ·
          subst he
          have hq : (rc = 1 ∧ bd = true) ∨ (rc = 0 ∧ a3 < 0 ∧ decide (a3 < 0) = true ∧ bd = true) ∨ (rc = 0 ∧ 3 < a3 ∧ decide (a3 < 0) = false ∧ decide (3 < a3) = true ∧ bd = true) ∨ (rc = 0 ∧ decide (a3 < 0) = false ∧ decide (3 < a3) = false ∧ bd = false) := by
           have h1 := HRC.out
           have h2 := HBD2.out
           unfold recE at h1
           cases ho : okRec R with
           | false =>
            rw [ho] at h1 h2
            exact .inl ⟨by rw [h1]; rfl, by rw [h2]; simp⟩
           | true =>
            rw [ho] at h1 h2
            right
            have h3 : rc = 0 := by rw [h1]; rfl
            by_cases q1 : a3 < 0
            ·
             exact .inl ⟨h3, q1, decide_eq_true q1, by rw [h2, decide_eq_false (show ¬ (0 ≤ a3 ∧ a3 ≤ 3) by omega)]; rfl⟩
            ·
             by_cases q2 : 3 < a3
             ·
              exact .inr (.inl ⟨h3, q2, decide_eq_false q1, decide_eq_true q2, by rw [h2, decide_eq_false (show ¬ (0 ≤ a3 ∧ a3 ≤ 3) by omega)]; rfl⟩)
             ·
              exact .inr (.inr ⟨h3, decide_eq_false q1, decide_eq_false q2, by rw [h2, decide_eq_true (show 0 ≤ a3 ∧ a3 ≤ 3 by omega)]; rfl⟩)
          have y0 : wr.cell? ⟨W.heap.size + 1 + 1, 0, none⟩ = some (.int .i64 a1) := (HRD.out.bx.cell 0).trans rfl
          have y1 : wr.cell? ⟨W.heap.size + 1 + 1, 1, none⟩ = some (.int .i64 a2) := (HRD.out.bx.cell 1).trans rfl
          have y2 : wr.cell? ⟨W.heap.size + 1 + 1, 2, none⟩ = some (.bool b0) := (HRD.out.bx.cell 2).trans rfl
          have y3 : wr.cell? ⟨W.heap.size + 1 + 1, 3, none⟩ = some (.string a4) := (HRD.out.bx.cell 3).trans rfl
          have y4 : wr.cell? ⟨W.heap.size + 1 + 1, 4, none⟩ = some (.bool b1) := (HRD.out.bx.cell 4).trans rfl
          have y5 : wr.cell? ⟨W.heap.size + 1 + 1, 5, none⟩ = some (.string a5) := (HRD.out.bx.cell 5).trans rfl
          have y6 : wr.cell? ⟨W.heap.size + 1 + 1, 6, none⟩ = some (.slice A hs0.length c) := (HRD.out.bx.cell 6).trans rfl
          have hh := Lib.hid (hin_of_own HW.out)
          have HK := Lib.hid (fun (w : World) (hb : Below wr.heap.size wr w) => And.intro (HRD.out.later hb) (own_below HW.out hb))
          rcases hq with ⟨rfl, rfl⟩ | ⟨rfl, q1, q2, rfl⟩ | ⟨rfl, q1, q2, q3, rfl⟩ | ⟨rfl, q2, q3, rfl⟩
          all_goals
           go_wp2_with fail
           (with_reducible refine (hck _ hh.out).mono ?_)
           rintro en w9 ⟨rfl, hb9⟩
           have HK9 := Lib.hid (HK.out _ hb9)
           clear hb9
           go_wp2_with fail
           go_meet
           exact ⟨rfl, HK9.out.1, HK9.out.2⟩
         ·
          have k1 : (e == 0) = false := by rw [beq_eq_false_iff_ne]; exact he
          have k2 : (e != 0) = true := by simpa using he
          have k3 : bd = false := by rw [HBD2.out, decide_eq_false he]; rfl
          subst k3
          clear he
          go_wp2_with fail
          go_meet
          exact ⟨rfl, HRD.out, HW.out⟩
        case rest =>
         obtain ⟨rfl, h1, h2⟩ := hcut
         have HR5 := Lib.hid h1
         have HW5 := Lib.hid h2
         clear h1 h2 HRD HW c0 c1 c2 f1 f2
         obtain ⟨ef, hef⟩ : ∃ ef : Int, ef = if bd = true then 3 else e := ⟨_, rfl⟩
         have HEF := Lib.hid hef
         clear hef
         obtain ⟨x0, x1, x2, x3, x4⟩ := HR5.out.rd.rd0
         go_upto_if 114 with fail
         go_cut [] (fun w => RDAt W s q ef #[.int .i64 a1, .int .i64 a2, .bool b0, .string a4, .bool b1, .string a5, .slice A hs0.length c] w ∧ w.ownsRow W.heap.size 87 2 (.slice A hs0.length c) hs0.length (headCells hs0))
         case first =>
          have hF := Lib.hid (And.intro (HR5.out.err 3) (own_set HW5.out HR5.out.rd (by decide) 2 (.int .i64 3)).1)
          have hm := HEF.out
          cases bd with
          | true =>
           go_wp2_with fail
           go_meet
           rw [hm]
           exact hF.out
          | false =>
           go_wp2_with fail
           go_meet
           rw [hm]
           exact ⟨HR5.out, HW5.out⟩
         case rest =>
          obtain ⟨h1, h2⟩ := hcut
          have HR6 := Lib.hid h1
          have HW6 := Lib.hid h2
          clear h1 h2 HR5 HW5 x0 x1 x2 x3 x4
          obtain ⟨x0, x1, x2, x3, x4⟩ := HR6.out.rd.rd0
          have HDF : Hid (D = if ef = 0 then (R, q, 0) else (recZero, 0, ef)) := Lib.hid (by
           rw [HD.out, HE.out, HEF.out, HBD2.out]
           by_cases he : e = 0
           ·
            cases hg : (decide (0 ≤ a3 ∧ a3 ≤ 3) && okRec R) <;> simp [he]
           ·
            simp [he])
          clear HD HH HR hin hnr HC HB0 HB1 HBD HMM HSM HA HL HSM2 HE hck HRC HBD2 HEF
          rename_i wc
          have r0 : wc.cell? ⟨W.heap.size, 0, none⟩ = some (.int .i64 0) := (HR6.out.rs.cell 0).trans rfl
          have g0 := HR6.out.rs.frozen 0
          have r1 : wc.cell? ⟨W.heap.size, 1, none⟩ = some (.int .i64 0) := (HR6.out.rs.cell 1).trans rfl
          have g1 := HR6.out.rs.frozen 1
          have r2 : wc.cell? ⟨W.heap.size, 2, none⟩ = some (.bool false) := (HR6.out.rs.cell 2).trans rfl
          have g2 := HR6.out.rs.frozen 2
          have r3 : wc.cell? ⟨W.heap.size, 3, none⟩ = some (.string ⟨#[]⟩) := (HR6.out.rs.cell 3).trans rfl
          have g3 := HR6.out.rs.frozen 3
          have r4 : wc.cell? ⟨W.heap.size, 4, none⟩ = some (.bool false) := (HR6.out.rs.cell 4).trans rfl
          have g4 := HR6.out.rs.frozen 4
          have r5 : wc.cell? ⟨W.heap.size, 5, none⟩ = some (.string ⟨#[]⟩) := (HR6.out.rs.cell 5).trans rfl
          have g5 := HR6.out.rs.frozen 5
          have r6 : wc.cell? ⟨W.heap.size, 6, none⟩ = some (.slice none 0 0) := (HR6.out.rs.cell 6).trans rfl
          have g6 := HR6.out.rs.frozen 6
          have y0 : wc.cell? ⟨W.heap.size + 1 + 1, 0, none⟩ = some (.int .i64 a1) := (HR6.out.bx.cell 0).trans rfl
          have y1 : wc.cell? ⟨W.heap.size + 1 + 1, 1, none⟩ = some (.int .i64 a2) := (HR6.out.bx.cell 1).trans rfl
          have y2 : wc.cell? ⟨W.heap.size + 1 + 1, 2, none⟩ = some (.bool b0) := (HR6.out.bx.cell 2).trans rfl
          have y3 : wc.cell? ⟨W.heap.size + 1 + 1, 3, none⟩ = some (.string a4) := (HR6.out.bx.cell 3).trans rfl
          have y4 : wc.cell? ⟨W.heap.size + 1 + 1, 4, none⟩ = some (.bool b1) := (HR6.out.bx.cell 4).trans rfl
          have y5 : wc.cell? ⟨W.heap.size + 1 + 1, 5, none⟩ = some (.string a5) := (HR6.out.bx.cell 5).trans rfl
          have y6 : wc.cell? ⟨W.heap.size + 1 + 1, 6, none⟩ = some (.slice A hs0.length c) := (HR6.out.bx.cell 6).trans rfl
          by_cases he : ef = 0
          ·
           subst he
           have HD2 : Hid (D = (⟨a1, a2, b0, a4, b1, a5, hs0⟩, q, 0)) := Lib.hid (by rw [HDF.out, HRR.out]; rfl)
           have HO2 := Lib.hid (own_off (own_off HW6.out (set7_off wc W.heap.size (.int .i64 a1) (.int .i64 a2) (.bool b0) (.string a4) (.bool b1) (.string a5) (.slice A hs0.length c)) (own_ne HW6.out HR6.out.rs (by decide))) ((Off.refl (fun _ => False) _).drew) (fun _ _ x => x))
           go_wp2_with fail
           go_region
           go_wp2
           refine bodyPost_ret (v := .tuple #[.agg #[.int .i64 a1, .int .i64 a2, .bool b0, .string a4, .bool b1, .string a5, .slice A hs0.length c], .int .i64 q, .int .i64 0]) ?_ rfl ?_
           ·
            exact rdec_result (W.heap.size) ((set7_box HR6.out.rs _ _ _ _ _ _ _).drew) _ rfl rfl rfl
           ·
            refine ⟨A, c, by rw [HD2.out]; rfl, by rw [HD2.out]; exact HO2.out, ?_⟩
            exact (HR6.out.bel.trans ((set7_off _ W.heap.size _ _ _ _ _ _ _).below HR6.out.bel.size (fun k hk => by omega))).drew
          ·
           have HD2 : Hid (D = (recZero, 0, ef)) := Lib.hid (by rw [HDF.out, if_neg he])
           have k1 : (ef == 0) = false := by rw [beq_eq_false_iff_ne]; exact he
           have k2 : (ef != 0) = true := by simpa using he
           clear he
           go_wp2_with fail
           go_region
           go_wp2
           refine bodyPost_ret (v := .tuple #[.agg #[.int .i64 0, .int .i64 0, .bool false, .string ⟨#[]⟩, .bool false, .string ⟨#[]⟩, .slice none 0 0], .int .i64 0, .int .i64 ef]) ?_ rfl ?_
           ·
            exact rdec_result (W.heap.size) ((set7_box HR6.out.rs _ _ _ _ _ _ _).drew) _ rfl rfl rfl
           ·
            refine ⟨none, 0, by rw [HD2.out]; rfl, by rw [HD2.out]; exact World.ownsRow_nil _ _ _ _, ?_⟩
            exact (HR6.out.bel.trans ((set7_off _ W.heap.size _ _ _ _ _ _ _).below HR6.out.bel.size (fun k hk => by omega))).drew
theorem rdec_c (s : ByteArray) (p : Int) (W : World) (hs : s.size ≤ 1152921504606846976) :
  Calls Tryz.prog 147 #[.string s, .int .i64 p] W (GotDec W (decR s p).1 (decR s p).2.1 (decR s p).2.2) := by
 by_cases h : p < 0 ∨ (s.size : Int) < p
 ·
  rw [decR_out h]
  exact rdec_out s p W hs h
 ·
  obtain ⟨a, rfl⟩ : ∃ a : Nat, p = a := ⟨p.toNat, by omega⟩
  exact rdec_in s a W hs (by omega)
end Go.Proofs.YtjnphajkoopkgaaGreatDoor
