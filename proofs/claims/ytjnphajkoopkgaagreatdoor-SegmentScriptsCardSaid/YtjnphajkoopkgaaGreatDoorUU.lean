/- Merged texts. What each proves is told at its head. -/
import Derived.Test.YtjnphajkoopkgaaGreatDoorUR
import Derived.Test.YtjnphajkoopkgaaGreatDoorUG
import Derived.Test.YtjnphajkoopkgaaGreatDoorUT
/- The document's inner: the batch of a body. Condition: the body has at most 60000 bytes. -/
namespace Go.Proofs.YtjnphajkoopkgaaGreatDoor
open Go.RowKit
set_option linter.unusedVariables false
/-- The document's reader's k-th number, the place behind it, an error. -/
def rn (s : ByteArray) : Nat → Int × Int × Int
 | 0 => rdN s 0 0
 | k + 1 => rdN s (rn s k).2.1 (rn s k).2.2
theorem rn_nrd {s : ByteArray} : ∀ k, (nrd s (k + 1)).2.2 = (rn s k).2.2 ∧ ((rn s k).2.2 = 0 → (nrd s (k + 1)).2.1 = (rn s k).2.1 ∧ (nrd s (k + 1)).1 = (List.range (k + 1)).map (fun i => (rn s i).1))
 | 0 => by
  have e : rn s 0 = getG s 0 := by show rdN s 0 0 = _; unfold rdN; rw [if_pos rfl]
  rw [e]
  show (if (nrd s 0).2.2 ≠ 0 then nrd s 0 else ((nrd s 0).1 ++ [(getG s (nrd s 0).2.1).1], (getG s (nrd s 0).2.1).2.1, (getG s (nrd s 0).2.1).2.2)).2.2 = _ ∧ _
  rw [if_neg (by simp [nrd])]
  refine ⟨rfl, fun _ => ⟨?_, ?_⟩⟩
  ·
   simp [nrd]
  ·
   simp [nrd, e]
 | k + 1 => by
  obtain ⟨h1, h2⟩ := rn_nrd (s := s) k
  by_cases he : (rn s k).2.2 = 0
  ·
   obtain ⟨h3, h4⟩ := h2 he
   have e : rn s (k + 1) = getG s (rn s k).2.1 := by show rdN s _ _ = _; unfold rdN; rw [if_pos he]
   have e2 : nrd s (k + 1 + 1) = ((nrd s (k + 1)).1 ++ [(getG s (nrd s (k + 1)).2.1).1], (getG s (nrd s (k + 1)).2.1).2.1, (getG s (nrd s (k + 1)).2.1).2.2) := by
    show (if (nrd s (k + 1)).2.2 ≠ 0 then _ else _) = _
    rw [if_neg (by rw [h1]; simpa using he)]
   rw [e2, e, h3]
   refine ⟨rfl, fun _ => ⟨rfl, ?_⟩⟩
   rw [List.range_succ, List.map_append, h4]
   simp [e]
  ·
   have e : rn s (k + 1) = (0, (rn s k).2.1, (rn s k).2.2) := rdN_err he
   have e2 : nrd s (k + 1 + 1) = nrd s (k + 1) := by
    show (if (nrd s (k + 1)).2.2 ≠ 0 then _ else _) = _
    rw [if_pos (by rw [h1]; exact he)]
   rw [e2, e]
   exact ⟨h1, fun h => absurd h he⟩
theorem rn_bad {s : ByteArray} (h : (rn s 5).2.2 ≠ 0) : unpB s = false := by
 unfold unpB
 rw [(rn_nrd (s := s) 5).1, decide_eq_false h]
 rfl
theorem rn_ok {s : ByteArray} (h : (rn s 5).2.2 = 0) : (nrd s 6).2.2 = 0 ∧ (nrd s 6).2.1 = (rn s 5).2.1 ∧ nbn (nrd s 6).1 = ⟨(rn s 0).1, (rn s 1).1, (rn s 2).1, (rn s 3).1, (rn s 4).1⟩ ∧ cntN s = (rn s 5).1 := by
 obtain ⟨h1, h2⟩ := rn_nrd (s := s) 5
 obtain ⟨h3, h4⟩ := h2 h
 refine ⟨h1.trans h, h3, ?_, ?_⟩
 ·
  rw [h4]; rfl
 ·
  unfold cntN; rw [h4]; rfl
/-- The reader, the batch that is being filled, and the result's block, all of the call's own. -/
structure InAt (W : World) (s : ByteArray) (q e : Int) (cs : Array Value) (w : World) : Prop where
 rd : Box w (W.heap.size + 1) 198 (rdC s q e)
 bx : Box w (W.heap.size + 1 + 1) 44 cs
 rs : Box w W.heap.size 44 zeroB
 bel : Below W.heap.size W w
section
variable {W w w' : World} {s : ByteArray} {q e q' e' : Int} {cs : Array Value}
theorem InAt.moved (h : InAt W s q e cs w) (hb : Box w' (W.heap.size + 1) 198 (rdC s q' e')) (ho : Off (· = W.heap.size + 1) w w') : InAt W s q' e' cs w' :=
 ⟨hb, h.bx.off ho (by omega), h.rs.off ho (by omega), h.bel.trans (ho.below h.bel.size (fun k hk => by omega))⟩
theorem InAt.set (h : InAt W s q e cs w) (i : Nat) (u : Value) : InAt W s q e (cs.setIfInBounds i u) (w.setCell ⟨W.heap.size + 1 + 1, i, none⟩ u) :=
 ⟨h.rd.far (by show W.heap.size + 1 ≠ W.heap.size + 1 + 1; omega) _, h.bx.set i u, h.rs.far (by show W.heap.size ≠ W.heap.size + 1 + 1; omega) _, h.bel.setCell (by show W.heap.size ≤ W.heap.size + 1 + 1; omega) _⟩
theorem InAt.later (h : InAt W s q e cs w) (hb : Below w.heap.size w w') : InAt W s q e cs w' :=
 ⟨h.rd.later hb, h.bx.later hb, h.rs.later hb, h.bel.trans (hb.mono h.bel.size)⟩
theorem InAt.grown {v : Value} {n : Nat} {xs : List Value} (h : InAt W s q e cs w) (ho : w.ownsRow W.heap.size 85 7 v n xs) (hg : w.grownBy w' v.ownBlock) : InAt W s q e cs w' := by
 have k : ∀ {b t : Nat} {cs : Array Value}, Box w b t cs → t ≠ 85 → Box w' b t cs := fun hb hne => (hg.block _ hb.lt (fun e => own_ne ho hb hne _ e.symm rfl)).trans hb
 exact ⟨k h.rd (by decide), k h.bx (by decide), k h.rs (by decide), h.bel.grown hg h.bel.size (fun j e => (ho.lt j e).1)⟩
end
theorem InAt.start (W : World) (s : ByteArray) : InAt W s 0 0 zeroB (((W.alloc (.cells zeroB 44)).alloc (.cells (rdC s 0 0) 198)).alloc (.cells zeroB 44)) := by
 refine ⟨?_, ?_, (((Box.new W _ _).alloc _).alloc _), (((Below.refl _ _).alloc (Nat.le_refl _) _).alloc (by simp) _).alloc (by simp; omega) _⟩
 ·
  have h := (Box.new (W.alloc (.cells zeroB 44)) 198 (rdC s 0 0)).alloc (.cells zeroB 44)
  simpa using h
 ·
  have h := Box.new ((W.alloc (.cells zeroB 44)).alloc (.cells (rdC s 0 0) 198)) 44 zeroB
  simpa using h
theorem inn_result {w : World} (g : Nat) {v0 v1 v2 v3 v4 v5 x : Value} (h : Box w g 44 #[v0, v1, v2, v3, v4, v5]) (tmps : Array Value) (ht : (tmps[2]?).getD undef = .pointer (some ⟨g, 0, none⟩)) (h3 : (tmps[3]?).getD undef = x) :
  (results Tryz.f125 tmps).run Tryz.prog w = .ok (.tuple #[.agg #[v0, v1, v2, v3, v4, v5], x]) w := by
 have c0 := (h.cell 0).trans (show _ = some v0 from rfl)
 have c1 := (h.cell 1).trans (show _ = some v1 from rfl)
 have c2 := (h.cell 2).trans (show _ = some v2 from rfl)
 have c3 := (h.cell 3).trans (show _ = some v3 from rfl)
 have c4 := (h.cell 4).trans (show _ = some v4 from rfl)
 have c5 := (h.cell 5).trans (show _ = some v5 from rfl)
 simp [results, Tryz.results125, go_sem, ht, h3, c0, c1, c2, c3, c4, c5]
/-- What was read so far, ready to be handed back. -/
structure InS (W : World) (b : BN) (A : Option Addr) (c : Nat) (L : List RX) (w : World) : Prop where
 res : ∃ v0 v1 v2 v3 v4 v5, Box w W.heap.size 44 #[v0, v1, v2, v3, v4, v5]
 bat : Box w (W.heap.size + 1 + 1) 44 (bnC b (.slice A L.length c))
 row : RowR w W.heap.size (.slice A L.length c) L
 rin : RsIn w A L
 bel : Below W.heap.size W w
section
variable {W w w' : World} {base span prod epoch seq : Int} {A : Option Addr} {c : Nat} {L : List RX}
theorem InS.cells (h : InS W ⟨base, span, prod, epoch, seq⟩ A c L w) : (fun w => w.cell? ⟨W.heap.size + 1 + 1, 0, none⟩ = some (.int .i64 base) ∧ w.cell? ⟨W.heap.size + 1 + 1, 1, none⟩ = some (.int .i64 span) ∧ w.cell? ⟨W.heap.size + 1 + 1, 2, none⟩ = some (.int .i64 prod) ∧ w.cell? ⟨W.heap.size + 1 + 1, 3, none⟩ = some (.int .i64 epoch) ∧ w.cell? ⟨W.heap.size + 1 + 1, 4, none⟩ = some (.int .i64 seq) ∧ w.cell? ⟨W.heap.size + 1 + 1, 5, none⟩ = some (.slice A L.length c) ∧ InS W ⟨base, span, prod, epoch, seq⟩ A c L w) w :=
 ⟨by rw [h.bat.cell]; rfl, by rw [h.bat.cell]; rfl, by rw [h.bat.cell]; rfl, by rw [h.bat.cell]; rfl, by rw [h.bat.cell]; rfl, by rw [h.bat.cell]; rfl, h⟩
theorem InS.later (h : InS W ⟨base, span, prod, epoch, seq⟩ A c L w) (hb : Below w.heap.size w w') : InS W ⟨base, span, prod, epoch, seq⟩ A c L w' := by
 obtain ⟨v0, v1, v2, v3, v4, v5, hr⟩ := h.res
 exact ⟨⟨v0, v1, v2, v3, v4, v5, hr.later hb⟩, h.bat.later hb, h.row.later hb, h.rin.below hb, h.bel.trans (hb.mono h.bel.size)⟩
theorem in_later (h : (fun w => w.cell? ⟨W.heap.size + 1 + 1, 0, none⟩ = some (.int .i64 base) ∧ w.cell? ⟨W.heap.size + 1 + 1, 1, none⟩ = some (.int .i64 span) ∧ w.cell? ⟨W.heap.size + 1 + 1, 2, none⟩ = some (.int .i64 prod) ∧ w.cell? ⟨W.heap.size + 1 + 1, 3, none⟩ = some (.int .i64 epoch) ∧ w.cell? ⟨W.heap.size + 1 + 1, 4, none⟩ = some (.int .i64 seq) ∧ w.cell? ⟨W.heap.size + 1 + 1, 5, none⟩ = some (.slice A L.length c) ∧ InS W ⟨base, span, prod, epoch, seq⟩ A c L w) w) (hb : Below w.heap.size w w') : (fun w => w.cell? ⟨W.heap.size + 1 + 1, 0, none⟩ = some (.int .i64 base) ∧ w.cell? ⟨W.heap.size + 1 + 1, 1, none⟩ = some (.int .i64 span) ∧ w.cell? ⟨W.heap.size + 1 + 1, 2, none⟩ = some (.int .i64 prod) ∧ w.cell? ⟨W.heap.size + 1 + 1, 3, none⟩ = some (.int .i64 epoch) ∧ w.cell? ⟨W.heap.size + 1 + 1, 4, none⟩ = some (.int .i64 seq) ∧ w.cell? ⟨W.heap.size + 1 + 1, 5, none⟩ = some (.slice A L.length c) ∧ InS W ⟨base, span, prod, epoch, seq⟩ A c L w) w' := (h.2.2.2.2.2.2.later hb).cells
theorem in_set (h : (fun w => w.cell? ⟨W.heap.size + 1 + 1, 0, none⟩ = some (.int .i64 base) ∧ w.cell? ⟨W.heap.size + 1 + 1, 1, none⟩ = some (.int .i64 span) ∧ w.cell? ⟨W.heap.size + 1 + 1, 2, none⟩ = some (.int .i64 prod) ∧ w.cell? ⟨W.heap.size + 1 + 1, 3, none⟩ = some (.int .i64 epoch) ∧ w.cell? ⟨W.heap.size + 1 + 1, 4, none⟩ = some (.int .i64 seq) ∧ w.cell? ⟨W.heap.size + 1 + 1, 5, none⟩ = some (.slice A L.length c) ∧ InS W ⟨base, span, prod, epoch, seq⟩ A c L w) w) (v0 v1 v2 v3 v4 v5 : Value) : (fun w => w.cell? ⟨W.heap.size + 1 + 1, 0, none⟩ = some (.int .i64 base) ∧ w.cell? ⟨W.heap.size + 1 + 1, 1, none⟩ = some (.int .i64 span) ∧ w.cell? ⟨W.heap.size + 1 + 1, 2, none⟩ = some (.int .i64 prod) ∧ w.cell? ⟨W.heap.size + 1 + 1, 3, none⟩ = some (.int .i64 epoch) ∧ w.cell? ⟨W.heap.size + 1 + 1, 4, none⟩ = some (.int .i64 seq) ∧ w.cell? ⟨W.heap.size + 1 + 1, 5, none⟩ = some (.slice A L.length c) ∧ InS W ⟨base, span, prod, epoch, seq⟩ A c L w) (bset w W.heap.size v0 v1 v2 v3 v4 v5) := by
 have hh := h.2.2.2.2.2.2
 obtain ⟨r0, r1, r2, r3, r4, r5, hr⟩ := hh.res
 have ho := bset_off w W.heap.size v0 v1 v2 v3 v4 v5
 refine InS.cells ⟨⟨_, _, _, _, _, _, bset_box hr _ _ _ _ _ _⟩, hh.bat.off ho (by omega), ⟨own_off hh.row.row ho (fun k e => own_ne hh.row.row hr (by decide) k e), fun x hx => own_off (hh.row.heads x hx) ho (fun k e => own_ne (hh.row.heads x hx) hr (by decide) k e)⟩, ?_, below_off hh.bel ho (Nat.le_refl _)⟩
 exact hh.rin.off ho (row_ne hh.row.row hr (by decide)) (fun x hx => row_ne (hh.row.heads x hx) hr (by decide))
end
set_option maxHeartbeats 16000000 in
set_option maxRecDepth 100000 in
theorem inner_c (s : ByteArray) (W : World) (hs : s.size ≤ 60000) : Calls Tryz.prog 125 #[.string s] W (GotUn W (unpB s) (nbn (nrd s 6).1) (recN s).1) := by
 have n0 : ∀ b w, Box w b 198 (rdC s 0 0) → Calls _ _ _ w (Moved w b 198 (.int .i64 (rn s 0).1) s (rn s 0).2.1 (rn s 0).2.2) := fun b w hx => rrdn_c s _ _ b w (by omega) hx
 have n1 : ∀ b w, Box w b 198 (rdC s (rn s 0).2.1 (rn s 0).2.2) → Calls _ _ _ w (Moved w b 198 (.int .i64 (rn s 1).1) s (rn s 1).2.1 (rn s 1).2.2) := fun b w hx => rrdn_c s _ _ b w (by omega) hx
 have n2 : ∀ b w, Box w b 198 (rdC s (rn s 1).2.1 (rn s 1).2.2) → Calls _ _ _ w (Moved w b 198 (.int .i64 (rn s 2).1) s (rn s 2).2.1 (rn s 2).2.2) := fun b w hx => rrdn_c s _ _ b w (by omega) hx
 have n3 : ∀ b w, Box w b 198 (rdC s (rn s 2).2.1 (rn s 2).2.2) → Calls _ _ _ w (Moved w b 198 (.int .i64 (rn s 3).1) s (rn s 3).2.1 (rn s 3).2.2) := fun b w hx => rrdn_c s _ _ b w (by omega) hx
 have n4 : ∀ b w, Box w b 198 (rdC s (rn s 3).2.1 (rn s 3).2.2) → Calls _ _ _ w (Moved w b 198 (.int .i64 (rn s 4).1) s (rn s 4).2.1 (rn s 4).2.2) := fun b w hx => rrdn_c s _ _ b w (by omega) hx
 have n5 : ∀ b w, Box w b 198 (rdC s (rn s 4).2.1 (rn s 4).2.2) → Calls _ _ _ w (Moved w b 198 (.int .i64 (rn s 5).1) s (rn s 5).2.1 (rn s 5).2.2) := fun b w hx => rrdn_c s _ _ b w (by omega) hx
 have HBAD := Lib.hid (fun h => rn_bad (s := s) h)
 have HOKN := Lib.hid (fun h => rn_ok (s := s) h)
 have HLAST := Lib.hid (fun (L : List RX) h0 h1 hc h2 h3 hL => inner_last (s := s) (L := L) hs h0 h1 hc h2 h3 hL)
 generalize (rn s 0).1 = x0 at *
 generalize (rn s 0).2.1 = q0 at *
 generalize (rn s 0).2.2 = e0 at *
 generalize (rn s 1).1 = x1 at *
 generalize (rn s 1).2.1 = q1 at *
 generalize (rn s 1).2.2 = e1 at *
 generalize (rn s 2).1 = x2 at *
 generalize (rn s 2).2.1 = q2 at *
 generalize (rn s 2).2.2 = e2 at *
 generalize (rn s 3).1 = x3 at *
 generalize (rn s 3).2.1 = q3 at *
 generalize (rn s 3).2.2 = e3 at *
 generalize (rn s 4).1 = x4 at *
 generalize (rn s 4).2.1 = q4 at *
 generalize (rn s 4).2.2 = e4 at *
 generalize (rn s 5).1 = x5 at *
 generalize (rn s 5).2.1 = q5 at *
 generalize (rn s 5).2.2 = e5 at *
 obtain ⟨ok, hok⟩ : ∃ b, unpB s = b := ⟨_, rfl⟩
 have HOK := Lib.hid hok
 rw [hok]
 clear hok
 obtain ⟨BF, hBF⟩ : ∃ b, nbn (nrd s 6).1 = b := ⟨_, rfl⟩
 obtain ⟨RF, hRF⟩ : ∃ b, (recN s).1 = b := ⟨_, rfl⟩
 have HF := Lib.hid (And.intro hBF hRF)
 rw [hBF, hRF]
 clear hBF hRF
 have H0 := Lib.hid (InAt.start W s)
 unfold rdC zeroB at H0
 go_enter Tryz.func125, Tryz.ntmps125
 go_wp2_with fail
 (with_reducible refine (n0 _ _ H0.out.rd).mono ?_)
 rintro en w1 ⟨rfl, hx, ho⟩
 have M1 : Hid (InAt W s q0 e0 #[.int .i64 0, .int .i64 0, .int .i64 0, .int .i64 0, .int .i64 0, .slice none 0 0] _) := Lib.hid (H0.out.moved hx ho)
 clear hx ho H0 n0
 have y := (M1.out.bx.cell 0).trans (show _ = some (Value.int .i64 0) from rfl)
 have z := M1.out.bx.frozen 0
 have H1 : Hid (InAt W s q0 e0 #[.int .i64 x0, .int .i64 0, .int .i64 0, .int .i64 0, .int .i64 0, .slice none 0 0] _) := Lib.hid (M1.out.set 0 (.int .i64 x0))
 go_wp2_with fail
 clear y z M1
 (with_reducible refine (n1 _ _ H1.out.rd).mono ?_)
 rintro en w2 ⟨rfl, hx, ho⟩
 have M2 : Hid (InAt W s q1 e1 #[.int .i64 x0, .int .i64 0, .int .i64 0, .int .i64 0, .int .i64 0, .slice none 0 0] _) := Lib.hid (H1.out.moved hx ho)
 clear hx ho H1 n1
 have y := (M2.out.bx.cell 1).trans (show _ = some (Value.int .i64 0) from rfl)
 have z := M2.out.bx.frozen 1
 have H2 : Hid (InAt W s q1 e1 #[.int .i64 x0, .int .i64 x1, .int .i64 0, .int .i64 0, .int .i64 0, .slice none 0 0] _) := Lib.hid (M2.out.set 1 (.int .i64 x1))
 go_wp2_with fail
 clear y z M2
 (with_reducible refine (n2 _ _ H2.out.rd).mono ?_)
 rintro en w3 ⟨rfl, hx, ho⟩
 have M3 : Hid (InAt W s q2 e2 #[.int .i64 x0, .int .i64 x1, .int .i64 0, .int .i64 0, .int .i64 0, .slice none 0 0] _) := Lib.hid (H2.out.moved hx ho)
 clear hx ho H2 n2
 have y := (M3.out.bx.cell 2).trans (show _ = some (Value.int .i64 0) from rfl)
 have z := M3.out.bx.frozen 2
 have H3 : Hid (InAt W s q2 e2 #[.int .i64 x0, .int .i64 x1, .int .i64 x2, .int .i64 0, .int .i64 0, .slice none 0 0] _) := Lib.hid (M3.out.set 2 (.int .i64 x2))
 go_wp2_with fail
 clear y z M3
 (with_reducible refine (n3 _ _ H3.out.rd).mono ?_)
 rintro en w4 ⟨rfl, hx, ho⟩
 have M4 : Hid (InAt W s q3 e3 #[.int .i64 x0, .int .i64 x1, .int .i64 x2, .int .i64 0, .int .i64 0, .slice none 0 0] _) := Lib.hid (H3.out.moved hx ho)
 clear hx ho H3 n3
 have y := (M4.out.bx.cell 3).trans (show _ = some (Value.int .i64 0) from rfl)
 have z := M4.out.bx.frozen 3
 have H4 : Hid (InAt W s q3 e3 #[.int .i64 x0, .int .i64 x1, .int .i64 x2, .int .i64 x3, .int .i64 0, .slice none 0 0] _) := Lib.hid (M4.out.set 3 (.int .i64 x3))
 go_wp2_with fail
 clear y z M4
 (with_reducible refine (n4 _ _ H4.out.rd).mono ?_)
 rintro en w5 ⟨rfl, hx, ho⟩
 have M5 : Hid (InAt W s q4 e4 #[.int .i64 x0, .int .i64 x1, .int .i64 x2, .int .i64 x3, .int .i64 0, .slice none 0 0] _) := Lib.hid (H4.out.moved hx ho)
 clear hx ho H4 n4
 have y := (M5.out.bx.cell 4).trans (show _ = some (Value.int .i64 0) from rfl)
 have z := M5.out.bx.frozen 4
 have H5 : Hid (InAt W s q4 e4 #[.int .i64 x0, .int .i64 x1, .int .i64 x2, .int .i64 x3, .int .i64 x4, .slice none 0 0] _) := Lib.hid (M5.out.set 4 (.int .i64 x4))
 go_wp2_with fail
 clear y z M5
 (with_reducible refine (n5 _ _ H5.out.rd).mono ?_)
 rintro en w6 ⟨rfl, hx, ho⟩
 have H6 : Hid (InAt W s q5 e5 #[.int .i64 x0, .int .i64 x1, .int .i64 x2, .int .i64 x3, .int .i64 x4, .slice none 0 0] _) := Lib.hid (H5.out.moved hx ho)
 clear hx ho H5 n5
 have rr1 := (H6.out.rd.cell 1).trans (show _ = some (Value.int .i64 q5) from rfl)
 have rr2 := (H6.out.rd.cell 2).trans (show _ = some (Value.int .i64 e5) from rfl)
 have hbz := (H6.out.rs : Box _ _ _ #[.int .i64 0, .int .i64 0, .int .i64 0, .int .i64 0, .int .i64 0, .slice none 0 0])
 obtain ⟨y0, y1, y2, y3, y4, y5, f0, f1, f2, f3, f4, f5⟩ := box_six hbz
 clear hbz
 by_cases he : e5 = 0
 ·
  subst he
  obtain ⟨hn1, hn2, hn3, hn4⟩ := HOKN.out rfl
  have HE := Lib.hid (And.intro hn1 (And.intro hn2 (And.intro hn3 hn4)))
  clear hn1 hn2 hn3 hn4 HOKN HBAD
  by_cases hn0 : x5 < 0
  ·
   have hbad : ok = false := by rw [← HOK.out]; unfold unpB; rw [HE.out.2.2.2, decide_eq_false (show ¬ (0 ≤ x5 ∧ x5 ≤ 50) by omega)]; simp
   subst hbad
   go_wp2_with fail
   refine bodyPost_ret (v := .tuple #[.agg #[.int .i64 0, .int .i64 0, .int .i64 0, .int .i64 0, .int .i64 0, .slice none 0 0], .bool false]) ?_ rfl ?_
   ·
    exact inn_result W.heap.size (bset_box (show Box _ _ _ #[.int .i64 0, .int .i64 0, .int .i64 0, .int .i64 0, .int .i64 0, .slice none 0 0] from H6.out.rs) _ _ _ _ _ _) _ rfl rfl
   ·
    exact GotUn.zero (below_off H6.out.bel (bset_off _ _ _ _ _ _ _ _) (Nat.le_refl _))
  ·
   by_cases hn1 : 50 < x5
   ·
    have hbad : ok = false := by rw [← HOK.out]; unfold unpB; rw [HE.out.2.2.2, decide_eq_false (show ¬ (0 ≤ x5 ∧ x5 ≤ 50) by omega)]; simp
    subst hbad
    go_wp2_with fail
    refine bodyPost_ret (v := .tuple #[.agg #[.int .i64 0, .int .i64 0, .int .i64 0, .int .i64 0, .int .i64 0, .slice none 0 0], .bool false]) ?_ rfl ?_
    ·
     exact inn_result W.heap.size (bset_box (show Box _ _ _ #[.int .i64 0, .int .i64 0, .int .i64 0, .int .i64 0, .int .i64 0, .slice none 0 0] from H6.out.rs) _ _ _ _ _ _) _ rfl rfl
    ·
     exact GotUn.zero (below_off H6.out.bel (bset_off _ _ _ _ _ _ _ _) (Nat.le_refl _))
   ·
    obtain ⟨m, rfl⟩ : ∃ m : Nat, x5 = m := ⟨x5.toNat, by omega⟩
    have hm50 : m ≤ 50 := by omega
    have HRN : Hid (recN s = rrd s q5 m) := Lib.hid (by unfold recN; rw [HE.out.2.1, HE.out.2.2.2, Int.toNat_natCast])
    have HB0 : Hid (BF = ⟨x0, x1, x2, x3, x4⟩) := Lib.hid (by rw [← HF.out.1]; exact HE.out.2.2.1)
    obtain ⟨i0, hq, hqz, hqs, hqb⟩ := info_parts recInfo
    clear y0 y1 y2 y3 y4 y5 f0 f1 f2 f3 f4 f5
    go_wp2_with fail
    clear rr1 rr2
    go_loopw [7, 8] (fun q i wr => ∃ (k : Nat) (L : List RX) (A : Option Addr) (c : Nat), i = .int .i64 k ∧ k ≤ m ∧ (rrd s q5 k).2.2 = 0 ∧ q = .int .i64 (rrd s q5 k).2.1 ∧ L.map (·.1) = (rrd s q5 k).1 ∧ InAt W s q5 0 #[.int .i64 x0, .int .i64 x1, .int .i64 x2, .int .i64 x3, .int .i64 x4, .slice A L.length c] wr ∧ RowR wr W.heap.size (.slice A L.length c) L) (fun _ i _ => m - (intOf i).toNat)
    case atStart => exact ⟨0, [], none, 0, rfl, Nat.zero_le _, rfl, rfl, rfl, H6.out, RowR.nil _ _⟩
    case round =>
     obtain ⟨k, L, A, c, rfl, hkm, he0, rfl, hLm, hV, hR⟩ := hrel
     have hLk : L.length = k := by rw [← rrd_len k he0, ← hLm, List.length_map]
     clear H6
     by_cases hk : k < m
     ·
      have hsuc : rrd s q5 (k + 1) = if (decR s (rrd s q5 k).2.1).2.2 ≠ 0 then ((rrd s q5 k).1, (rrd s q5 k).2.1, (decR s (rrd s q5 k).2.1).2.2) else ((rrd s q5 k).1 ++ [(decR s (rrd s q5 k).2.1).1], (decR s (rrd s q5 k).2.1).2.1, 0) := by
       show (if (rrd s q5 k).2.2 ≠ 0 then _ else _) = _
       rw [if_neg (by simpa using he0)]
      have cd := fun w => rdec_c s (rrd s q5 k).2.1 w (by omega)
      obtain ⟨r, hr⟩ : ∃ x, (decR s (rrd s q5 k).2.1).1 = x := ⟨_, rfl⟩
      obtain ⟨q2, hq2⟩ : ∃ x, (decR s (rrd s q5 k).2.1).2.1 = x := ⟨_, rfl⟩
      obtain ⟨ee, he2⟩ : ∃ x, (decR s (rrd s q5 k).2.1).2.2 = x := ⟨_, rfl⟩
      rw [hr, hq2, he2] at hsuc
      rw [hr, hq2, he2] at cd
      have HS := Lib.hid hsuc
      have HV := Lib.hid (And.intro hV hR)
      have HLM := Lib.hid (And.intro hLm hLk)
      have hki : (k : Int) < (m : Int) := by omega
      have hL50 : L.length ≤ 50 := by omega
      clear hsuc hr hq2 he2 hV hR hLm hLk he0
      obtain ⟨place, time, bare, key, gone, value, heads⟩ := r
      unfold GotDec recV recC at cd
      simp only at cd
      by_cases hee : ee = 0
      ·
       subst hee
       go_wp2_with fail
       (with_reducible refine (cd _).mono ?_)
       rintro en w1 ⟨A1, c1, rfl, hh, hb1⟩
       have HV1 := Lib.hid (And.intro (HV.out.1.later hb1) (HV.out.2.later hb1))
       have HH := Lib.hid (own_base hh HV.out.1.bel.size)
       clear hh hb1 HV cd
       have hal1 : Below w1.heap.size w1 (w1.alloc (.cells #[.int .i64 place, .int .i64 time, .bool bare, .string key, .bool gone, .string value, .slice A1 heads.length c1] 85)) := (Below.refl _ _).alloc (Nat.le_refl _) _
       have hal2 : Below w1.heap.size w1 ((w1.alloc (.cells #[.int .i64 place, .int .i64 time, .bool bare, .string key, .bool gone, .string value, .slice A1 heads.length c1] 85)).alloc (.cells #[.int .i64 place, .int .i64 time, .bool bare, .string key, .bool gone, .string value, .slice A1 heads.length c1] 85)) := hal1.alloc hal1.size _
       have y5 := ((HV1.out.1.later hal1).bx.cell 5).trans rfl
       simp only [List.getElem?_toArray, List.getElem?_cons_zero, List.getElem?_cons_succ] at y5
       have HV2 := Lib.hid (And.intro (HV1.out.1.later hal2) (And.intro (HV1.out.2.later hal2) (own_below HH.out hal2)))
       have hrow := HV2.out.2.1.row
       have hbn := (by
        have := Box.new (w1.alloc (.cells #[.int .i64 place, .int .i64 time, .bool bare, .string key, .bool gone, .string value, .slice A1 heads.length c1] 85)) 85 (recC ⟨place, time, bare, key, gone, value, heads⟩ A1 c1)
        rw [World.size_alloc] at this
        exact this : Box ((w1.alloc (.cells #[.int .i64 place, .int .i64 time, .bool bare, .string key, .bool gone, .string value, .slice A1 heads.length c1] 85)).alloc (.cells (recC ⟨place, time, bare, key, gone, value, heads⟩ A1 c1) 85)) (w1.heap.size + 1) 85 (recC ⟨place, time, bare, key, gone, value, heads⟩ A1 c1))
       have hnews := news_at hbn
       have hone := rec_one ⟨place, time, bare, key, gone, value, heads⟩ A1 c1
       have hsz2 := HV2.out.1.bel.size
       unfold recC at hnews hone
       simp only at hnews hone
       have HNW := Lib.hid (And.intro hnews hone)
       clear hal1 hal2 hbn hnews hone HV1 HH
       go_wp2_with (at_builtin; refine wpList_append_own_at _ rfl _ _ 42 rfl W.heap.size 85 i0 _ 7 88 Tryz.underlying42 hq hqz hqs hqb recC_zero (by decide) (.slice A L.length c) L.length (recsC L) rfl hrow ⟨w1.heap.size + 1, 0, none⟩ 1 1 [.int .i64 place, .int .i64 time, .bool bare, .string key, .bool gone, .string value, .slice A1 heads.length c1] rfl rfl HNW.out.1 HNW.out.2 (by unfold maxLen; omega) (by omega) hsz2 ?_)
       intro v' w2 hown' hgrow _ _
       obtain ⟨g', cap', rfl⟩ : ∃ g' cap', v' = .slice (some ⟨g', 0, none⟩) (L.length + 1) cap' := by
        rcases hown'.2 with ⟨_, h0⟩ | ⟨g, cap, cur, hv, _⟩
        ·
         omega
        ·
         exact ⟨g, cap, hv⟩
       have HU2 := Lib.hid (HV2.out.1.grown hrow hgrow)
       have HR2 := Lib.hid (HV2.out.2.1.grow (x := (⟨place, time, bare, key, gone, value, heads⟩, A1, c1)) HV2.out.2.2 hown' hgrow)
       have z5 := (HU2.out.bx.cell 5).trans rfl
       simp only [List.getElem?_toArray, List.getElem?_cons_zero, List.getElem?_cons_succ] at z5
       have hfr := HU2.out.bx.frozen 5
       have HU3 := Lib.hid (HU2.out.set 5 (.slice (some ⟨g', 0, none⟩) (L.length + 1) cap'))
       have HR3 := Lib.hid (HR2.out.set HU2.out.bx (by decide) (by decide) 5 (.slice (some ⟨g', 0, none⟩) (L.length + 1) cap'))
       clear hown' hgrow hrow y5
       go_wp2
       go_roundw
       case rel =>
        refine ⟨k + 1, L ++ [(⟨place, time, bare, key, gone, value, heads⟩, A1, c1)], some ⟨g', 0, none⟩, cap', by go_num, hk, ?_, ?_, ?_, ?_, ?_⟩
        ·
         rw [HS.out, if_neg (by simp)]
        ·
         rw [HS.out, if_neg (by simp)]
        ·
         rw [HS.out, if_neg (by simp), List.map_append, HLM.out.1]; rfl
        ·
         rw [List.length_append]; exact HU3.out
        ·
         rw [List.length_append]; exact HR3.out
       case measure => simp [intOf]; omega
      ·
       have hee' : (ee == 0) = false := by rw [beq_eq_false_iff_ne]; exact hee
       have hee2 : (ee != 0) = true := by simpa using hee
       have hbad : ok = false := by
        rw [← HOK.out]
        unfold unpB
        rw [HRN.out]
        have h6 : rrd s q5 m = rrd s q5 (k + 1) := by
         have := rrd_stop (s := s) (q := q5) (k := k + 1) (by rw [HS.out, if_pos hee]; exact hee) (m - (k + 1))
         rw [← this]
         congr 1
         omega
        rw [h6, HS.out, if_pos hee, decide_eq_false hee]
        simp
       subst hbad
       clear hee
       go_wp2_with fail
       (with_reducible refine (cd _).mono ?_)
       rintro en w1 ⟨A1, c1, rfl, hh, hb1⟩
       have HV1 := Lib.hid ((HV.out.1.later hb1).later ((Below.refl _ _).alloc (Nat.le_refl _) (.cells #[.int .i64 place, .int .i64 time, .bool bare, .string key, .bool gone, .string value, .slice A1 heads.length c1] 85)))
       clear hh hb1 HV cd
       have hbz := (HV1.out.rs : Box _ _ _ #[.int .i64 0, .int .i64 0, .int .i64 0, .int .i64 0, .int .i64 0, .slice none 0 0])
       obtain ⟨y0, y1, y2, y3, y4, y5, f0, f1, f2, f3, f4, f5⟩ := box_six hbz
       clear hbz
       go_wp2_with fail
       refine bodyPost_ret (v := .tuple #[.agg #[.int .i64 0, .int .i64 0, .int .i64 0, .int .i64 0, .int .i64 0, .slice none 0 0], .bool false]) ?_ rfl ?_
       ·
        exact inn_result W.heap.size (bset_box (show Box _ _ _ #[.int .i64 0, .int .i64 0, .int .i64 0, .int .i64 0, .int .i64 0, .slice none 0 0] from HV1.out.rs) _ _ _ _ _ _) _ rfl rfl
       ·
        exact GotUn.zero (below_off HV1.out.bel (bset_off _ _ _ _ _ _ _ _) (Nat.le_refl _))
     ·
      obtain rfl : k = m := by omega
      have HRF : Hid (L.map (·.1) = RF) := Lib.hid (by rw [hLm, ← HRN.out]; exact HF.out.2)
      have HLL : Hid ((rrd s q5 k).2.1 = (s.size : Int) → batB BF L = ok) := Lib.hid (fun h3 => by
       rw [← HOK.out, ← HF.out.1]
       exact HLAST.out L HE.out.1 (by rw [HE.out.2.2.2]; omega) (by rw [HE.out.2.2.2]; omega) (by rw [HRN.out]; exact he0) (by rw [HRN.out]; exact h3) (by rw [HRN.out]; exact hLm))
      have HNL : Hid ((rrd s q5 k).2.1 ≠ (s.size : Int) → ok = false) := Lib.hid (fun h3 => by
       rw [← HOK.out]
       unfold unpB
       rw [HRN.out, decide_eq_false h3]
       simp)
      have HV := Lib.hid (And.intro hV hR)
      have hL50 : L.length ≤ 50 := by omega
      have HOKR := Lib.hid (show ∀ r ∈ L.map (·.1), okRec r = true by rw [hLm]; exact rrd_ok k)
      clear HLAST HRN HF hLm hLk he0 hV hR hq hqz hqs hqb
      generalize (rrd s q5 k).2.1 = q at *
      have hokL : ∀ x ∈ L, okRec x.1 = true := fun x hx => HOKR.out x.1 (List.mem_map.2 ⟨x, hx, rfl⟩)
      have HS0 : Hid (InS W BF A c L wr) := Lib.hid (by
       rw [HB0.out]
       exact ⟨⟨_, _, _, _, _, _, HV.out.1.rs⟩, HV.out.1.bx, HV.out.2, HV.out.2.rsin hokL, HV.out.1.bel⟩)
      have c1 := fun w hw => rcheck5_c BF A c L w hw (by omega)
      unfold batE at c1
      obtain ⟨base, span, prod, epoch, seq⟩ := BF
      injection HB0.out with b0 b1 b2 b3 b4
      subst b0 b1 b2 b3 b4
      have hS0 := (HS0.out.later ((Below.refl _ _).drew)).cells
      unfold bnC at c1
      simp only at c1
      clear hokL HOKR HV
      go_wp2_with fail
      by_cases hq : q = (s.size : Int)
      ·
       subst hq
       have hlb := HLL.out rfl
       cases ok with
       | false =>
        rw [hlb, if_neg (by decide)] at c1
        clear hlb
        refine wp_region_held_drew (S := (fun w => w.cell? ⟨W.heap.size + 1 + 1, 0, none⟩ = some (.int .i64 base) ∧ w.cell? ⟨W.heap.size + 1 + 1, 1, none⟩ = some (.int .i64 span) ∧ w.cell? ⟨W.heap.size + 1 + 1, 2, none⟩ = some (.int .i64 prod) ∧ w.cell? ⟨W.heap.size + 1 + 1, 3, none⟩ = some (.int .i64 epoch) ∧ w.cell? ⟨W.heap.size + 1 + 1, 4, none⟩ = some (.int .i64 seq) ∧ w.cell? ⟨W.heap.size + 1 + 1, 5, none⟩ = some (.slice A L.length c) ∧ InS W ⟨base, span, prod, epoch, seq⟩ A c L w)) (by kernel_rfl) hS0 (fun hHeld => ?_)
        refine takeW (i := 0) (v := ?v1) rfl (by kernel_rfl) (by kernel_rfl) (by kernel_rfl) (fun _ _ _ h => h) (by kernel_rfl) hHeld ?hy1 ?rest1
        case hy1 => (intro w hSw; (try dsimp only at hSw); go_simp; (try with_reducible rfl))
        try simp only [Act.put, List.setIfInBounds_toArray, List.set_cons_zero, List.set_cons_succ]
        refine takeW (i := 1) (v := ?v2) rfl (by kernel_rfl) (by kernel_rfl) (by kernel_rfl) (fun _ _ _ h => h) (by kernel_rfl) hHeld ?hy2 ?rest2
        case hy2 => (intro w hSw; (try dsimp only at hSw); go_simp; (try with_reducible rfl))
        try simp only [Act.put, List.setIfInBounds_toArray, List.set_cons_zero, List.set_cons_succ]
        refine takeW (i := 2) (v := ?v3) rfl (by kernel_rfl) (by kernel_rfl) (by kernel_rfl) (fun _ _ _ h => h) (by kernel_rfl) hHeld ?hy3 ?rest3
        case hy3 => (intro w hSw; (try dsimp only at hSw); go_simp; (try with_reducible rfl))
        try simp only [Act.put, List.setIfInBounds_toArray, List.set_cons_zero, List.set_cons_succ]
        refine takeW (i := 3) (v := ?v4) rfl (by kernel_rfl) (by kernel_rfl) (by kernel_rfl) (fun _ _ _ h => h) (by kernel_rfl) hHeld ?hy4 ?rest4
        case hy4 => (intro w hSw; (try dsimp only at hSw); go_simp; (try with_reducible rfl))
        try simp only [Act.put, List.setIfInBounds_toArray, List.set_cons_zero, List.set_cons_succ]
        refine takeW (i := 4) (v := ?v5) rfl (by kernel_rfl) (by kernel_rfl) (by kernel_rfl) (fun _ _ _ h => h) (by kernel_rfl) hHeld ?hy5 ?rest5
        case hy5 => (intro w hSw; (try dsimp only at hSw); go_simp; (try with_reducible rfl))
        try simp only [Act.put, List.setIfInBounds_toArray, List.set_cons_zero, List.set_cons_succ]
        refine takeW (i := 5) (v := ?v6) rfl (by kernel_rfl) (by kernel_rfl) (by kernel_rfl) (fun _ _ _ h => h) (by kernel_rfl) hHeld ?hy6 ?rest6
        case hy6 => (intro w hSw; (try dsimp only at hSw); go_simp; (try with_reducible rfl))
        try simp only [Act.put, List.setIfInBounds_toArray, List.set_cons_zero, List.set_cons_succ]
        refine takeW (i := 6) (v := ?v7) rfl (by kernel_rfl) (by kernel_rfl) (by kernel_rfl) (fun _ _ _ h => h) (by kernel_rfl) hHeld ?hy7 ?rest7
        case hy7 => (intro w hSw; (try dsimp only at hSw); go_simp; (try with_reducible rfl))
        try simp only [Act.put, List.setIfInBounds_toArray, List.set_cons_zero, List.set_cons_succ]
        refine wpAnyH_ready (rs := [7]) (by kernel_rfl) (by simp) ?_
        refine consL rfl (by kernel_rfl) (fun K hK => ?_) AllReadyH.nil
        go_simp
        (with_reducible refine (c1 _ hHeld.2.2.2.2.2.2.rin).mono ?_)
        rintro e w6 ⟨rfl, hb2⟩
        refine hK.out _ _ (in_later hHeld hb2) (fun hHeld => ?_)
        clear hK K hb2
        try simp only [Act.put, List.setIfInBounds_toArray, List.set_cons_zero, List.set_cons_succ]
        refine takeW (i := 8) (v := ?v8) rfl (by kernel_rfl) (by kernel_rfl) (by kernel_rfl) (fun _ _ _ h => h) (by kernel_rfl) hHeld ?hy8 ?rest8
        case hy8 => (intro w hSw; (try dsimp only at hSw); go_simp; (try with_reducible rfl))
        try simp only [Act.put, List.setIfInBounds_toArray, List.set_cons_zero, List.set_cons_succ]
        refine takeW (i := 9) (v := ?v9) rfl (by kernel_rfl) (by kernel_rfl) (by kernel_rfl) (fun _ _ _ h => h) (by kernel_rfl) hHeld ?hy9 ?rest9
        case hy9 => (intro w hSw; (try dsimp only at hSw); go_simp; (try with_reducible rfl))
        try simp only [Act.put, List.setIfInBounds_toArray, List.set_cons_zero, List.set_cons_succ]
        obtain ⟨r0, r1, r2, r3, r4, r5, hrb⟩ := hHeld.2.2.2.2.2.2.res
        obtain ⟨y0, y1, y2, y3, y4, y5, f0, f1, f2, f3, f4, f5⟩ := box_six hrb
        refine wpAnyH_ready (rs := [10]) (by kernel_rfl) (by simp) ?_
        refine consL rfl (by kernel_rfl) (fun K hK => ?_) AllReadyH.nil
        go_simp
        refine hK.out _ _ (in_set hHeld (.int .i64 base) (.int .i64 span) (.int .i64 prod) (.int .i64 epoch) (.int .i64 seq) (.slice A L.length c)) (fun hHeld2 => ?_)
        clear hK K y0 y1 y2 y3 y4 y5 f0 f1 f2 f3 f4 f5
        refine takeW (i := 11) (v := ?v10) rfl (by kernel_rfl) (by kernel_rfl) (by kernel_rfl) (fun _ _ _ h => h) (by kernel_rfl) hHeld2 ?hy10 ?rest10
        case hy10 => (intro w hSw; (try dsimp only at hSw); go_simp; (try with_reducible rfl))
        try simp only [Act.put, List.setIfInBounds_toArray, List.set_cons_zero, List.set_cons_succ]
        refine wpAnyH_done (by kernel_rfl) ?_ _
        go_wp2_with fail
        refine bodyPost_ret (v := .tuple #[.agg #[.int .i64 base, .int .i64 span, .int .i64 prod, .int .i64 epoch, .int .i64 seq, .slice A L.length c], .bool false]) ?_ rfl ?_
        ·
         exact inn_result W.heap.size (bset_box hrb _ _ _ _ _ _) _ rfl rfl
        ·
         exact ⟨⟨base, span, prod, epoch, seq⟩, A, L.length, c, rfl, fun _ => ⟨rfl, L, HRF.out, rfl, hHeld2.2.2.2.2.2.2.row⟩, hHeld2.2.2.2.2.2.2.bel⟩
       | true =>
        rw [hlb, if_pos rfl] at c1
        clear hlb
        refine wp_region_held_drew (S := (fun w => w.cell? ⟨W.heap.size + 1 + 1, 0, none⟩ = some (.int .i64 base) ∧ w.cell? ⟨W.heap.size + 1 + 1, 1, none⟩ = some (.int .i64 span) ∧ w.cell? ⟨W.heap.size + 1 + 1, 2, none⟩ = some (.int .i64 prod) ∧ w.cell? ⟨W.heap.size + 1 + 1, 3, none⟩ = some (.int .i64 epoch) ∧ w.cell? ⟨W.heap.size + 1 + 1, 4, none⟩ = some (.int .i64 seq) ∧ w.cell? ⟨W.heap.size + 1 + 1, 5, none⟩ = some (.slice A L.length c) ∧ InS W ⟨base, span, prod, epoch, seq⟩ A c L w)) (by kernel_rfl) hS0 (fun hHeld => ?_)
        refine takeW (i := 0) (v := ?v11) rfl (by kernel_rfl) (by kernel_rfl) (by kernel_rfl) (fun _ _ _ h => h) (by kernel_rfl) hHeld ?hy11 ?rest11
        case hy11 => (intro w hSw; (try dsimp only at hSw); go_simp; (try with_reducible rfl))
        try simp only [Act.put, List.setIfInBounds_toArray, List.set_cons_zero, List.set_cons_succ]
        refine takeW (i := 1) (v := ?v12) rfl (by kernel_rfl) (by kernel_rfl) (by kernel_rfl) (fun _ _ _ h => h) (by kernel_rfl) hHeld ?hy12 ?rest12
        case hy12 => (intro w hSw; (try dsimp only at hSw); go_simp; (try with_reducible rfl))
        try simp only [Act.put, List.setIfInBounds_toArray, List.set_cons_zero, List.set_cons_succ]
        refine takeW (i := 2) (v := ?v13) rfl (by kernel_rfl) (by kernel_rfl) (by kernel_rfl) (fun _ _ _ h => h) (by kernel_rfl) hHeld ?hy13 ?rest13
        case hy13 => (intro w hSw; (try dsimp only at hSw); go_simp; (try with_reducible rfl))
        try simp only [Act.put, List.setIfInBounds_toArray, List.set_cons_zero, List.set_cons_succ]
        refine takeW (i := 3) (v := ?v14) rfl (by kernel_rfl) (by kernel_rfl) (by kernel_rfl) (fun _ _ _ h => h) (by kernel_rfl) hHeld ?hy14 ?rest14
        case hy14 => (intro w hSw; (try dsimp only at hSw); go_simp; (try with_reducible rfl))
        try simp only [Act.put, List.setIfInBounds_toArray, List.set_cons_zero, List.set_cons_succ]
        refine takeW (i := 4) (v := ?v15) rfl (by kernel_rfl) (by kernel_rfl) (by kernel_rfl) (fun _ _ _ h => h) (by kernel_rfl) hHeld ?hy15 ?rest15
        case hy15 => (intro w hSw; (try dsimp only at hSw); go_simp; (try with_reducible rfl))
        try simp only [Act.put, List.setIfInBounds_toArray, List.set_cons_zero, List.set_cons_succ]
        refine takeW (i := 5) (v := ?v16) rfl (by kernel_rfl) (by kernel_rfl) (by kernel_rfl) (fun _ _ _ h => h) (by kernel_rfl) hHeld ?hy16 ?rest16
        case hy16 => (intro w hSw; (try dsimp only at hSw); go_simp; (try with_reducible rfl))
        try simp only [Act.put, List.setIfInBounds_toArray, List.set_cons_zero, List.set_cons_succ]
        refine takeW (i := 6) (v := ?v17) rfl (by kernel_rfl) (by kernel_rfl) (by kernel_rfl) (fun _ _ _ h => h) (by kernel_rfl) hHeld ?hy17 ?rest17
        case hy17 => (intro w hSw; (try dsimp only at hSw); go_simp; (try with_reducible rfl))
        try simp only [Act.put, List.setIfInBounds_toArray, List.set_cons_zero, List.set_cons_succ]
        refine wpAnyH_ready (rs := [7]) (by kernel_rfl) (by simp) ?_
        refine consL rfl (by kernel_rfl) (fun K hK => ?_) AllReadyH.nil
        go_simp
        (with_reducible refine (c1 _ hHeld.2.2.2.2.2.2.rin).mono ?_)
        rintro e w6 ⟨rfl, hb2⟩
        refine hK.out _ _ (in_later hHeld hb2) (fun hHeld => ?_)
        clear hK K hb2
        try simp only [Act.put, List.setIfInBounds_toArray, List.set_cons_zero, List.set_cons_succ]
        refine takeW (i := 8) (v := ?v18) rfl (by kernel_rfl) (by kernel_rfl) (by kernel_rfl) (fun _ _ _ h => h) (by kernel_rfl) hHeld ?hy18 ?rest18
        case hy18 => (intro w hSw; (try dsimp only at hSw); go_simp; (try with_reducible rfl))
        try simp only [Act.put, List.setIfInBounds_toArray, List.set_cons_zero, List.set_cons_succ]
        refine takeW (i := 9) (v := ?v19) rfl (by kernel_rfl) (by kernel_rfl) (by kernel_rfl) (fun _ _ _ h => h) (by kernel_rfl) hHeld ?hy19 ?rest19
        case hy19 => (intro w hSw; (try dsimp only at hSw); go_simp; (try with_reducible rfl))
        try simp only [Act.put, List.setIfInBounds_toArray, List.set_cons_zero, List.set_cons_succ]
        obtain ⟨r0, r1, r2, r3, r4, r5, hrb⟩ := hHeld.2.2.2.2.2.2.res
        obtain ⟨y0, y1, y2, y3, y4, y5, f0, f1, f2, f3, f4, f5⟩ := box_six hrb
        refine wpAnyH_ready (rs := [10]) (by kernel_rfl) (by simp) ?_
        refine consL rfl (by kernel_rfl) (fun K hK => ?_) AllReadyH.nil
        go_simp
        refine hK.out _ _ (in_set hHeld (.int .i64 base) (.int .i64 span) (.int .i64 prod) (.int .i64 epoch) (.int .i64 seq) (.slice A L.length c)) (fun hHeld2 => ?_)
        clear hK K y0 y1 y2 y3 y4 y5 f0 f1 f2 f3 f4 f5
        refine takeW (i := 11) (v := ?v20) rfl (by kernel_rfl) (by kernel_rfl) (by kernel_rfl) (fun _ _ _ h => h) (by kernel_rfl) hHeld2 ?hy20 ?rest20
        case hy20 => (intro w hSw; (try dsimp only at hSw); go_simp; (try with_reducible rfl))
        try simp only [Act.put, List.setIfInBounds_toArray, List.set_cons_zero, List.set_cons_succ]
        refine wpAnyH_done (by kernel_rfl) ?_ _
        go_wp2_with fail
        refine bodyPost_ret (v := .tuple #[.agg #[.int .i64 base, .int .i64 span, .int .i64 prod, .int .i64 epoch, .int .i64 seq, .slice A L.length c], .bool true]) ?_ rfl ?_
        ·
         exact inn_result W.heap.size (bset_box hrb _ _ _ _ _ _) _ rfl rfl
        ·
         exact ⟨⟨base, span, prod, epoch, seq⟩, A, L.length, c, rfl, fun _ => ⟨rfl, L, HRF.out, rfl, hHeld2.2.2.2.2.2.2.row⟩, hHeld2.2.2.2.2.2.2.bel⟩
      ·
       have hq' : (q == (s.size : Int)) = false := by rw [beq_eq_false_iff_ne]; exact hq
       have hok := HNL.out hq
       subst hok
       refine wp_region_held_drew (S := (fun w => w.cell? ⟨W.heap.size + 1 + 1, 0, none⟩ = some (.int .i64 base) ∧ w.cell? ⟨W.heap.size + 1 + 1, 1, none⟩ = some (.int .i64 span) ∧ w.cell? ⟨W.heap.size + 1 + 1, 2, none⟩ = some (.int .i64 prod) ∧ w.cell? ⟨W.heap.size + 1 + 1, 3, none⟩ = some (.int .i64 epoch) ∧ w.cell? ⟨W.heap.size + 1 + 1, 4, none⟩ = some (.int .i64 seq) ∧ w.cell? ⟨W.heap.size + 1 + 1, 5, none⟩ = some (.slice A L.length c) ∧ InS W ⟨base, span, prod, epoch, seq⟩ A c L w)) (by kernel_rfl) hS0 (fun hHeld => ?_)
       refine takeW (i := 0) (v := ?v21) rfl (by kernel_rfl) (by kernel_rfl) (by kernel_rfl) (fun _ _ _ h => h) (by kernel_rfl) hHeld ?hy21 ?rest21
       case hy21 => (intro w hSw; (try dsimp only at hSw); go_simp; (try with_reducible rfl))
       try simp only [Act.put, List.setIfInBounds_toArray, List.set_cons_zero, List.set_cons_succ]
       refine takeW (i := 1) (v := ?v22) rfl (by kernel_rfl) (by kernel_rfl) (by kernel_rfl) (fun _ _ _ h => h) (by kernel_rfl) hHeld ?hy22 ?rest22
       case hy22 => (intro w hSw; (try dsimp only at hSw); go_simp; (try with_reducible rfl))
       try simp only [Act.put, List.setIfInBounds_toArray, List.set_cons_zero, List.set_cons_succ]
       refine takeW (i := 2) (v := ?v23) rfl (by kernel_rfl) (by kernel_rfl) (by kernel_rfl) (fun _ _ _ h => h) (by kernel_rfl) hHeld ?hy23 ?rest23
       case hy23 => (intro w hSw; (try dsimp only at hSw); go_simp; (try with_reducible rfl))
       try simp only [Act.put, List.setIfInBounds_toArray, List.set_cons_zero, List.set_cons_succ]
       refine takeW (i := 3) (v := ?v24) rfl (by kernel_rfl) (by kernel_rfl) (by kernel_rfl) (fun _ _ _ h => h) (by kernel_rfl) hHeld ?hy24 ?rest24
       case hy24 => (intro w hSw; (try dsimp only at hSw); go_simp; (try with_reducible rfl))
       try simp only [Act.put, List.setIfInBounds_toArray, List.set_cons_zero, List.set_cons_succ]
       refine takeW (i := 4) (v := ?v25) rfl (by kernel_rfl) (by kernel_rfl) (by kernel_rfl) (fun _ _ _ h => h) (by kernel_rfl) hHeld ?hy25 ?rest25
       case hy25 => (intro w hSw; (try dsimp only at hSw); go_simp; (try with_reducible rfl))
       try simp only [Act.put, List.setIfInBounds_toArray, List.set_cons_zero, List.set_cons_succ]
       refine takeW (i := 5) (v := ?v26) rfl (by kernel_rfl) (by kernel_rfl) (by kernel_rfl) (fun _ _ _ h => h) (by kernel_rfl) hHeld ?hy26 ?rest26
       case hy26 => (intro w hSw; (try dsimp only at hSw); go_simp; (try with_reducible rfl))
       try simp only [Act.put, List.setIfInBounds_toArray, List.set_cons_zero, List.set_cons_succ]
       refine takeU (i := 6) rfl (by kernel_rfl) (by kernel_rfl) (by kernel_rfl) (fun _ _ _ h => h) (by kernel_rfl) hHeld ?_
       try simp only [Act.put, List.setIfInBounds_toArray, List.set_cons_zero, List.set_cons_succ]
       refine takeU (i := 7) rfl (by kernel_rfl) (by kernel_rfl) (by kernel_rfl) (fun _ _ _ h => h) (by kernel_rfl) hHeld ?_
       try simp only [Act.put, List.setIfInBounds_toArray, List.set_cons_zero, List.set_cons_succ]
       refine takeU (i := 8) rfl (by kernel_rfl) (by kernel_rfl) (by kernel_rfl) (fun _ _ _ h => h) (by kernel_rfl) hHeld ?_
       try simp only [Act.put, List.setIfInBounds_toArray, List.set_cons_zero, List.set_cons_succ]
       refine takeW (i := 9) (v := ?v27) rfl (by kernel_rfl) (by kernel_rfl) (by kernel_rfl) (fun _ _ _ h => h) (by kernel_rfl) hHeld ?hy27 ?rest27
       case hy27 => (intro w hSw; (try dsimp only at hSw); go_simp; (try with_reducible rfl))
       try simp only [Act.put, List.setIfInBounds_toArray, List.set_cons_zero, List.set_cons_succ]
       obtain ⟨r0, r1, r2, r3, r4, r5, hrb⟩ := HS0.out.res
       obtain ⟨y0, y1, y2, y3, y4, y5, f0, f1, f2, f3, f4, f5⟩ := box_six hrb
       refine wpAnyH_ready (rs := [10]) (by kernel_rfl) (by simp) ?_
       refine consL rfl (by kernel_rfl) (fun K hK => ?_) AllReadyH.nil
       go_simp
       refine hK.out _ _ (InS.later (in_set HS0.out.cells (.int .i64 base) (.int .i64 span) (.int .i64 prod) (.int .i64 epoch) (.int .i64 seq) (.slice A L.length c)).2.2.2.2.2.2 ((Below.refl _ _).drew)).cells (fun hHeld2 => ?_)
       clear hK K y0 y1 y2 y3 y4 y5 f0 f1 f2 f3 f4 f5
       refine takeW (i := 11) (v := ?v28) rfl (by kernel_rfl) (by kernel_rfl) (by kernel_rfl) (fun _ _ _ h => h) (by kernel_rfl) hHeld2 ?hy28 ?rest28
       case hy28 => (intro w hSw; (try dsimp only at hSw); go_simp; (try with_reducible rfl))
       try simp only [Act.put, List.setIfInBounds_toArray, List.set_cons_zero, List.set_cons_succ]
       refine wpAnyH_done (by kernel_rfl) ?_ _
       go_wp2_with fail
       refine bodyPost_ret (v := .tuple #[.agg #[.int .i64 base, .int .i64 span, .int .i64 prod, .int .i64 epoch, .int .i64 seq, .slice A L.length c], .bool false]) ?_ rfl ?_
       ·
        exact inn_result W.heap.size (bset_box hrb _ _ _ _ _ _).drew _ rfl rfl
       ·
        exact ⟨⟨base, span, prod, epoch, seq⟩, A, L.length, c, rfl, fun _ => ⟨rfl, L, HRF.out, rfl, hHeld2.2.2.2.2.2.2.row⟩, hHeld2.2.2.2.2.2.2.bel⟩
 ·
  have he1 : (e5 == 0) = false := by rw [beq_eq_false_iff_ne]; exact he
  have he2 : (e5 != 0) = true := by simpa using he
  have hbad := HBAD.out he
  rw [HOK.out] at hbad
  subst hbad
  clear he
  go_wp2_with fail
  refine bodyPost_ret (v := .tuple #[.agg #[.int .i64 0, .int .i64 0, .int .i64 0, .int .i64 0, .int .i64 0, .slice none 0 0], .bool false]) ?_ rfl ?_
  ·
   exact inn_result W.heap.size (bset_box (show Box _ _ _ #[.int .i64 0, .int .i64 0, .int .i64 0, .int .i64 0, .int .i64 0, .slice none 0 0] from H6.out.rs) _ _ _ _ _ _) _ rfl rfl
  ·
   exact GotUn.zero (below_off H6.out.bel (bset_off _ _ _ _ _ _ _ _) (Nat.le_refl _))
end Go.Proofs.YtjnphajkoopkgaaGreatDoor
/- The document's Decode of a batch. Condition: the text has at most 1000000 bytes. -/
namespace Go.Proofs.YtjnphajkoopkgaaGreatDoor
open Go.RowKit
set_option linter.unusedVariables false
theorem decG_err {s : ByteArray} {p e : Int} (h : (bodyG s p).2.2 = e) (he : e ≠ 0) : decG s p = (zeroN, [], 0, e) := by
  unfold decG
  rw [if_pos (by rw [h]; exact he), h]
theorem rdc_result {w : World} (g : Nat) {v0 v1 v2 v3 v4 v5 x y : Value} (h : Box w g 44 #[v0, v1, v2, v3, v4, v5]) (tmps : Array Value) (ht : (tmps[4]?).getD undef = .pointer (some ⟨g, 0, none⟩)) (h5 : (tmps[5]?).getD undef = x) (h6 : (tmps[6]?).getD undef = y) :
    (results Tryz.f95 tmps).run Tryz.prog w = .ok (.tuple #[.agg #[v0, v1, v2, v3, v4, v5], x, y]) w := by
  have c0 := (h.cell 0).trans (show _ = some v0 from rfl)
  have c1 := (h.cell 1).trans (show _ = some v1 from rfl)
  have c2 := (h.cell 2).trans (show _ = some v2 from rfl)
  have c3 := (h.cell 3).trans (show _ = some v3 from rfl)
  have c4 := (h.cell 4).trans (show _ = some v4 from rfl)
  have c5 := (h.cell 5).trans (show _ = some v5 from rfl)
  simp [results, Tryz.results95, go_sem, ht, h5, h6, c0, c1, c2, c3, c4, c5]
set_option maxHeartbeats 16000000 in
set_option maxRecDepth 100000 in
theorem rdecode5_c (s : ByteArray) (p : Int) (W : World) (hs : s.size ≤ 5000000) :
    Calls Tryz.prog 95 #[.string s, .int .i64 p] W (GotBt W (decG s p).1 (decG s p).2.1 (decG s p).2.2.1 (decG s p).2.2.2) := by
  obtain ⟨W0, hW0⟩ : ∃ w, W.alloc (.cells #[.int .i64 0, .int .i64 0, .int .i64 0, .int .i64 0, .int .i64 0, .slice none 0 0] 44) = w := ⟨_, rfl⟩
  have HA : Hid (Below W.heap.size W W0 ∧ Box W0 W.heap.size 44 #[.int .i64 0, .int .i64 0, .int .i64 0, .int .i64 0, .int .i64 0, .slice none 0 0]) := Lib.hid (by
    rw [← hW0]
    exact ⟨(Below.refl _ W).alloc (Nat.le_refl _) _, Box.new W 44 _⟩)
  obtain ⟨y0, y1, y2, y3, y4, y5, f0, f1, f2, f3, f4, f5⟩ := box_six HA.out.2
  by_cases h1 : p < 0 ∨ (s.size : Int) < p
  · have hD : decG s p = (zeroN, [], 0, 1) := decG_err (by unfold bodyG; rw [if_pos h1]) (by decide)
    rw [hD]
    clear hD
    by_cases h0 : p < 0
    · clear h1
      go_enter Tryz.func95, Tryz.ntmps95
      go_wp2_with fail
      refine bodyPost_ret (v := .tuple #[.agg #[.int .i64 0, .int .i64 0, .int .i64 0, .int .i64 0, .int .i64 0, .slice none 0 0], .int .i64 0, .int .i64 1]) ?_ rfl ?_
      · exact rdc_result W.heap.size (bset_box HA.out.2 _ _ _ _ _ _) _ rfl rfl rfl
      · exact GotBt.zero (below_off HA.out.1 (bset_off _ _ _ _ _ _ _ _) (Nat.le_refl _))
    · have h0' : (s.size : Int) < p := by omega
      clear h1
      go_enter Tryz.func95, Tryz.ntmps95
      go_wp2_with fail
      refine bodyPost_ret (v := .tuple #[.agg #[.int .i64 0, .int .i64 0, .int .i64 0, .int .i64 0, .int .i64 0, .slice none 0 0], .int .i64 0, .int .i64 1]) ?_ rfl ?_
      · exact rdc_result W.heap.size (bset_box HA.out.2 _ _ _ _ _ _) _ rfl rfl rfl
      · exact GotBt.zero (below_off HA.out.1 (bset_off _ _ _ _ _ _ _ _) (Nat.le_refl _))
  · have hb : bodyG s p = bodyG s p := rfl
    unfold bodyG at hb
    obtain ⟨a, rfl⟩ : ∃ a : Nat, p = a := ⟨p.toNat, by omega⟩
    conv at hb => lhs; rw [if_neg h1, Int.toNat_natCast]
    have ha0 : ¬ (a : Int) < 0 := by omega
    have ha1 : ¬ (s.size : Int) < (a : Int) := by omega
    clear h1
    by_cases h2 : s.size < a + 8
    · rw [if_pos h2] at hb
      have hD : decG s a = (zeroN, [], 0, 2) := decG_err (by rw [show bodyG s a = _ from hb.symm]) (by decide)
      rw [hD]
      have h2i : (s.size : Int) - (a : Int) < 8 := by omega
      clear hD hb h2
      go_enter Tryz.func95, Tryz.ntmps95
      go_wp2_with fail
      refine bodyPost_ret (v := .tuple #[.agg #[.int .i64 0, .int .i64 0, .int .i64 0, .int .i64 0, .int .i64 0, .slice none 0 0], .int .i64 0, .int .i64 2]) ?_ rfl ?_
      · exact rdc_result W.heap.size (bset_box HA.out.2 _ _ _ _ _ _) _ rfl rfl rfl
      · exact GotBt.zero (below_off HA.out.1 (bset_off _ _ _ _ _ _ _ _) (Nat.le_refl _))
    · rw [if_neg h2] at hb
      have h2i : ¬ (s.size : Int) - (a : Int) < 8 := by omega
      have c1 := fun w => rread_c s a 4 w (by omega)
      have c2 := fun w => rread_c s ((a + 4 : Nat) : Int) 4 w (by omega)
      rw [readG_in (by omega)] at c1 c2
      have hn := rd4_lt s a
      have hm := rd4_lt s (a + 4)
      unfold Tri at c1 c2
      have hq4 : ((a + 4 : Nat) : Int) = (a : Int) + 4 := by omega
      rw [hq4] at c2
      clear hq4
      by_cases h3 : 60000 < rd4 s a
      · rw [if_pos h3] at hb
        have hD : decG s a = (zeroN, [], 0, 3) := decG_err (by rw [show bodyG s a = _ from hb.symm]) (by decide)
        rw [hD]
        clear hD hb
        generalize rd4 s (a + 4) = m at *
        generalize rd4 s a = n at *
        have h3' : (60000 : Int) < (n : Int) := by omega
        clear h2 h3
        go_enter Tryz.func95, Tryz.ntmps95
        go_wp2_with fail
        (with_reducible refine (c1 _).mono ?_)
        rintro e w1 ⟨rfl, rfl⟩
        go_wp2_with fail
        (with_reducible refine (c2 _).mono ?_)
        rintro e w2 ⟨rfl, rfl⟩
        go_wp2_with fail
        refine bodyPost_ret (v := .tuple #[.agg #[.int .i64 0, .int .i64 0, .int .i64 0, .int .i64 0, .int .i64 0, .slice none 0 0], .int .i64 0, .int .i64 3]) ?_ rfl ?_
        · exact rdc_result W.heap.size (bset_box HA.out.2 _ _ _ _ _ _) _ rfl rfl rfl
        · exact GotBt.zero (below_off HA.out.1 (bset_off _ _ _ _ _ _ _ _) (Nat.le_refl _))
      · rw [if_neg h3] at hb
        have h3' : ¬ (60000 : Int) < (rd4 s a : Int) := by omega
        by_cases h4 : s.size < a + 8 + rd4 s a
        · rw [if_pos h4] at hb
          have hD : decG s a = (zeroN, [], 0, 2) := decG_err (by rw [show bodyG s a = _ from hb.symm]) (by decide)
          rw [hD]
          clear hD hb
          generalize rd4 s (a + 4) = m at *
          generalize rd4 s a = n at *
          have h4' : (s.size : Int) - (a : Int) - 8 < (n : Int) := by omega
          clear h2 h3 h4
          go_enter Tryz.func95, Tryz.ntmps95
          go_wp2_with fail
          (with_reducible refine (c1 _).mono ?_)
          rintro e w1 ⟨rfl, rfl⟩
          go_wp2_with fail
          (with_reducible refine (c2 _).mono ?_)
          rintro e w2 ⟨rfl, rfl⟩
          go_wp2_with fail
          refine bodyPost_ret (v := .tuple #[.agg #[.int .i64 0, .int .i64 0, .int .i64 0, .int .i64 0, .int .i64 0, .slice none 0 0], .int .i64 0, .int .i64 2]) ?_ rfl ?_
          · exact rdc_result W.heap.size (bset_box HA.out.2 _ _ _ _ _ _) _ rfl rfl rfl
          · exact GotBt.zero (below_off HA.out.1 (bset_off _ _ _ _ _ _ _ _) (Nat.le_refl _))
        · rw [if_neg h4] at hb
          have hsl := fun w => slice_str (P := Tryz.prog) w 9 s (a + 8) (a + 8 + rd4 s a) Tryz.underlying9 (by omega) (by omega)
          have cs := fun w => CR.rsum_c (s.extract (a + 8) (a + 8 + rd4 s a)) w (by unfold maxLen; rw [ByteArray.size_extract]; omega)
          change ∀ w, Calls _ _ _ _ (fun e w' => e = .returned (.int .u32 (sumN (s.extract (a + 8) (a + 8 + rd4 s a)) : Nat)) ∧ w = w') at cs
          have hts : (s.extract (a + 8) (a + 8 + rd4 s a)).size ≤ 60000 := by rw [ByteArray.size_extract]; omega
          have hsm := sumN_lt (s.extract (a + 8) (a + 8 + rd4 s a))
          have hq8 : ((a + 8 : Nat) : Int) = (a : Int) + 8 := by omega
          have hqn : ((a + 8 + rd4 s a : Nat) : Int) = (a : Int) + 8 + (rd4 s a : Int) := by omega
          rw [hq8, hqn] at hsl
          rw [hqn] at hb
          clear hq8 hqn
          have HD0 : Hid (∀ t q, (bodyG s a) = (t, q, 0) → decG s a = if unpB t = true then (nbn (nrd t 6).1, (recN t).1, q, 0) else (zeroN, [], 0, 3)) := Lib.hid (fun t q h => by
            unfold decG
            rw [h]
            simp)
          generalize s.extract (a + 8) (a + 8 + rd4 s a) = t at *
          generalize rd4 s (a + 4) = m at *
          generalize rd4 s a = n at *
          have h4' : ¬ (s.size : Int) - (a : Int) - 8 < (n : Int) := by omega
          clear h2 h3 h4
          by_cases h5 : sumN t = m
          · rw [if_neg (by omega)] at hb
            have hD := HD0.out t _ hb.symm
            rw [hD]
            have ci := fun w => inner_c t w hts
            clear hD hb HD0
            generalize sumN t = sm at *
            subst h5
            cases hu : unpB t with
            | false =>
              rw [hu] at ci
              rw [if_neg (by decide)]
              clear hu
              go_enter Tryz.func95, Tryz.ntmps95
              go_wp2_with fail
              (with_reducible refine (c1 _).mono ?_)
              rintro e w1 ⟨rfl, rfl⟩
              go_wp2_with fail
              (with_reducible refine (c2 _).mono ?_)
              rintro e w2 ⟨rfl, rfl⟩
              go_wp2_with fail
              (with_reducible refine (cs _).mono ?_)
              rintro e w3 ⟨rfl, rfl⟩
              go_wp2_with fail
              (with_reducible refine (ci _).mono ?_)
              rintro en w4 ⟨b', A, k, c, rfl, hok, hb4⟩
              have HA1 := Lib.hid (And.intro (HA.out.1.trans (hb4.mono HA.out.1.size)) (HA.out.2.later hb4))
              clear hb4 ci HA hok y0 y1 y2 y3 y4 y5 f0 f1 f2 f3 f4 f5
              obtain ⟨base, span, prod, epoch, seq⟩ := b'
              unfold bnC
              simp only
              have HA3 := Lib.hid (And.intro (HA1.out.1.alloc HA1.out.1.size (.cells #[.int .i64 base, .int .i64 span, .int .i64 prod, .int .i64 epoch, .int .i64 seq, .slice A k c] 44)) (HA1.out.2.alloc (.cells #[.int .i64 base, .int .i64 span, .int .i64 prod, .int .i64 epoch, .int .i64 seq, .slice A k c] 44)))
              obtain ⟨y0, y1, y2, y3, y4, y5, f0, f1, f2, f3, f4, f5⟩ := box_six HA3.out.2
              go_wp2_with fail
              refine bodyPost_ret (v := .tuple #[.agg #[.int .i64 0, .int .i64 0, .int .i64 0, .int .i64 0, .int .i64 0, .slice none 0 0], .int .i64 0, .int .i64 3]) ?_ rfl ?_
              · exact rdc_result W.heap.size (bset_box HA3.out.2 _ _ _ _ _ _) _ rfl rfl rfl
              · exact GotBt.zero (below_off HA3.out.1 (bset_off _ _ _ _ _ _ _ _) (Nat.le_refl _))
            | true =>
              rw [hu] at ci
              rw [if_pos rfl]
              clear hu
              go_enter Tryz.func95, Tryz.ntmps95
              go_wp2_with fail
              (with_reducible refine (c1 _).mono ?_)
              rintro e w1 ⟨rfl, rfl⟩
              go_wp2_with fail
              (with_reducible refine (c2 _).mono ?_)
              rintro e w2 ⟨rfl, rfl⟩
              go_wp2_with fail
              (with_reducible refine (cs _).mono ?_)
              rintro e w3 ⟨rfl, rfl⟩
              go_wp2_with fail
              (with_reducible refine (ci _).mono ?_)
              rintro en w4 ⟨b', A, k, c, rfl, hok, hb4⟩
              obtain ⟨rfl, L, hLR, hnL, hrow⟩ := hok rfl
              subst hnL
              have HA2 := Lib.hid (And.intro (HA.out.1.trans (hb4.mono HA.out.1.size)) (HA.out.2.later hb4))
              have HR2 := Lib.hid (hrow.base HA.out.1.size)
              clear hb4 ci HA hok hrow y0 y1 y2 y3 y4 y5 f0 f1 f2 f3 f4 f5
              have HLR := Lib.hid hLR
              clear hLR
              generalize nbn (nrd t 6).1 = bb at *
              obtain ⟨base, span, prod, epoch, seq⟩ := bb
              unfold bnC
              simp only
              have hal2 : Below w4.heap.size w4 (w4.alloc (.cells #[.int .i64 base, .int .i64 span, .int .i64 prod, .int .i64 epoch, .int .i64 seq, .slice A L.length c] 44)) := (Below.refl _ _).alloc (Nat.le_refl _) _
              have HA3 := Lib.hid (And.intro (HA2.out.1.alloc HA2.out.1.size (.cells #[.int .i64 base, .int .i64 span, .int .i64 prod, .int .i64 epoch, .int .i64 seq, .slice A L.length c] 44)) (HA2.out.2.alloc (.cells #[.int .i64 base, .int .i64 span, .int .i64 prod, .int .i64 epoch, .int .i64 seq, .slice A L.length c] 44)))
              have HR3 := Lib.hid (HR2.out.later hal2)
              clear hal2
              obtain ⟨y0, y1, y2, y3, y4, y5, f0, f1, f2, f3, f4, f5⟩ := box_six HA3.out.2
              go_wp2_with fail
              refine bodyPost_ret (v := .tuple #[.agg #[.int .i64 base, .int .i64 span, .int .i64 prod, .int .i64 epoch, .int .i64 seq, .slice A L.length c], .int .i64 ((a : Int) + 8 + (n : Int)), .int .i64 0]) ?_ rfl ?_
              · exact rdc_result W.heap.size (bset_box HA3.out.2 _ _ _ _ _ _) _ rfl rfl rfl
              · exact ⟨L, A, c, HLR.out, rfl, HR3.out.bset HA3.out.2 (by decide) (by decide) _ _ _ _ _ _, below_off HA3.out.1 (bset_off _ _ _ _ _ _ _ _) (Nat.le_refl _)⟩
          · rw [if_pos h5] at hb
            have hD : decG s a = (zeroN, [], 0, 4) := decG_err (by rw [show bodyG s a = _ from hb.symm]) (by decide)
            rw [hD]
            clear hD hb HD0
            generalize sumN t = sm at *
            have h5' : ((sm : Int) == (m : Int)) = false := by rw [beq_eq_false_iff_ne]; omega
            go_enter Tryz.func95, Tryz.ntmps95
            go_wp2_with fail
            (with_reducible refine (c1 _).mono ?_)
            rintro e w1 ⟨rfl, rfl⟩
            go_wp2_with fail
            (with_reducible refine (c2 _).mono ?_)
            rintro e w2 ⟨rfl, rfl⟩
            go_wp2_with fail
            (with_reducible refine (cs _).mono ?_)
            rintro e w3 ⟨rfl, rfl⟩
            go_wp2_with fail
            refine bodyPost_ret (v := .tuple #[.agg #[.int .i64 0, .int .i64 0, .int .i64 0, .int .i64 0, .int .i64 0, .slice none 0 0], .int .i64 0, .int .i64 4]) ?_ rfl ?_
            · exact rdc_result W.heap.size (bset_box HA.out.2 _ _ _ _ _ _) _ rfl rfl rfl
            · exact GotBt.zero (below_off HA.out.1 (bset_off _ _ _ _ _ _ _ _) (Nat.le_refl _))
end Go.Proofs.YtjnphajkoopkgaaGreatDoor
