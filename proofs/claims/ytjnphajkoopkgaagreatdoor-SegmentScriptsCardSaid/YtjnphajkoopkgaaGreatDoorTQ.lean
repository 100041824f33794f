/- Merged texts. What each proves is told at its head. -/
import Derived.Test.YtjnphajkoopkgaaGreatDoorTJ
namespace Go.Proofs.YtjnphajkoopkgaaGreatDoor
open Go.RowKit
set_option linter.unusedVariables false
theorem append_nil (b : BN) (v : Value) (W : World) : Calls Tryz.prog 19 #[.pointer none, .agg (bnC b v)] W (Good W (.int .i64 1)) := by
 unfold bnC
 go_enter Tryz.func19, Tryz.ntmps19
 go_wp2_with fail
 go_ret
 exact ⟨rfl, (Below.refl _ _).alloc (Nat.le_refl _) _⟩
theorem sync_nil (W : World) : Calls Tryz.prog 20 #[.pointer none] W (Good W (.int .i64 1)) := by
 go_enter Tryz.func20, Tryz.ntmps20
 go_wp2_with fail
 go_ret
 exact ⟨rfl, Below.refl _ _⟩
def sR (t : Int) : Rec := ⟨0, t, false, ⟨#[107]⟩, false, ⟨#[118]⟩, []⟩
def sB (t : Int) : BN := ⟨t, 1, -1, -1, -1⟩
def GotSi (W : World) (t : Int) (e : Ending) (w' : World) : Prop := ∃ g, e = .returned (.agg (bnC (sB t) (.slice (some ⟨g, 0, none⟩) 1 1))) ∧ RsIn w' (some ⟨g, 0, none⟩) [(sR t, none, 0)] ∧ Below W.heap.size W w'
theorem rs_one {w : World} {g : Nat} {ty : TypeId} {t : Int} (h : Box w g ty (recC (sR t) none 0)) : RsIn w (some ⟨g, 0, none⟩) [(sR t, none, 0)] := fun _ => by
 refine ⟨g, 0, rfl, h.lt, fun j x hx => ?_⟩
 match j with
 | 0 =>
  have e : (sR t, none, 0) = x := by simpa using hx
  subst e
  exact ⟨⟨h.cell 0, h.cell 1, h.cell 2, h.cell 3, h.cell 4, h.cell 5, h.cell 6⟩, ⟨fun h => absurd h (Nat.lt_irrefl 0), Nat.zero_le _, (by decide : (1:Nat) ≤ 1152921504606846976), (by decide : (1:Nat) ≤ 1152921504606846976), by intro x hx; cases hx⟩⟩
 | j + 1 => simp at hx
set_option maxHeartbeats 4000000 in
theorem simple_c (t : Int) (W : World) : Calls Tryz.prog 25 #[.int .i64 t] W (GotSi W t) := by
 go_enter Tryz.func25, Tryz.ntmps25
 have hb := Box.new W 44 #[.int .i64 t, .int .i64 1, .int .i64 (-1), .int .i64 (-1), .int .i64 (-1), .slice (some ⟨W.heap.size + 1, 0, none⟩) 1 1]
 have hr := Box.new (W.alloc (.cells #[.int .i64 t, .int .i64 1, .int .i64 (-1), .int .i64 (-1), .int .i64 (-1), .slice (some ⟨W.heap.size + 1, 0, none⟩) 1 1] 44)) 85 (recC (sR t) none 0)
 rw [World.size_alloc] at hr
 have hb2 := hb.later ((Below.refl _ _).alloc (Nat.le_refl _) (.cells (recC (sR t) none 0) 85))
 have hw := ((Below.refl W.heap.size W).alloc (Nat.le_refl _) (.cells #[.int .i64 t, .int .i64 1, .int .i64 (-1), .int .i64 (-1), .int .i64 (-1), .slice (some ⟨W.heap.size + 1, 0, none⟩) 1 1] 44)).alloc (by rw [World.size_alloc]; omega) (.cells (recC (sR t) none 0) 85)
 have HQ := Lib.hid (And.intro hb2 (And.intro hr hw))
 clear hb hr hb2 hw
 go_wp2_with fail
 refine bodyPost_ret (v := .agg (bnC (sB t) (.slice (some ⟨W.heap.size + 1, 0, none⟩) 1 1))) ?_ rfl ⟨_, rfl, rs_one HQ.out.2.1, HQ.out.2.2⟩
 have hB := HQ.out.1
 unfold recC sR at hB
 simp [results, Tryz.results25, go_sem]
 rfl
def b5 : BR := (sB 5, [sR 5])
def b6 : BR := (sB 6, [sR 6])
theorem sB_ok5 : batB (sB 5) [(sR 5, none, 0)] = true := by decide
theorem sB_ok6 : batB (sB 6) [(sR 6, none, 0)] = true := by decide
theorem size5 : (encB (sB 5) [(sR 5, none, 0)]).size = 22 := by
 unfold encB
 rw [if_pos sB_ok5, wrapB_size, bodyB_size]
 decide
theorem size6 : (encB (sB 6) [(sR 6, none, 0)]).size = 22 := by
 unfold encB
 rw [if_pos sB_ok6, wrapB_size, bodyB_size]
 decide
theorem len5 : lenN [b5] = 22 := by
 show (encB (sB 5) [(sR 5, none, 0)]).size + 0 = 22
 rw [size5]
theorem len56 : lenN [b5, b6] = 44 := by
 show (encB (sB 5) [(sR 5, none, 0)]).size + ((encB (sB 6) [(sR 6, none, 0)]).size + 0) = 44
 rw [size5, size6]
def na : ByteArray := ⟨#[97]⟩
theorem not_at {W w : World} {g : Nat} {t : TypeId} {cs : Array Value} (h : Box w g t cs) (ht : ([t].all fun t => ![68, 108, 5].contains t) = true) : ¬ AtS W w g := fun hk => hk.2.apart ⟨cs, t, (0, 0), h, List.mem_singleton.2 rfl⟩ ht
theorem op_a : OpOk na 5 10 := ⟨⟨by decide, by decide⟩, ⟨by decide, by decide⟩, by decide, by decide⟩
theorem lv_new (W : World) : Calls Tryz.prog 7 #[.int .i64 10000] W (fun e w' => e = .returned (.tuple #[Dk.dp W.heap.size, .int .i64 0]) ∧ Dn W W.heap.size na [] 0 10000 w') :=
 (Dk.at_new 10000 (by decide) (Below.refl _ _)).mono fun e w' h => ⟨h.1, _, h.2, one_new _ _, rfl⟩
theorem so_open0 (W w : World) (p : Nat) (n : ByteArray) (base every : Int) (room : Int) (h : Dn W p n [] 0 room w) (hT : Tab W) (hok : OpOk n base every) :
  Calls Tryz.prog 9 #[Dk.dp p, .string n, .int .i64 base, .int .i64 every] w (fun e w' => ∃ q, e = .returned (.tuple #[sp q, .int .i64 0]) ∧ So W p q n base [] 0 room w') := by
 refine (so_open W w p n base every [] 0 0 room h (Nat.zero_le _) (fun x hx => by cases hx) trivial hT hok (by decide) (Nat.le_refl _)).mono ?_
 rintro e w' ⟨q, j, rfl, _, _, _, h⟩
 rw [List.take_nil, Nat.min_eq_left (Nat.zero_le _)] at h
 exact ⟨q, rfl, h⟩
theorem lv_app5 (W w : World) (p q : Nat) (hT : Tab W) (g : Nat) (h : So W p q na 5 [] 0 10000 w) (hin : RsIn w (some ⟨g, 0, none⟩) [(sR 5, none, 0)]) :
  Calls Tryz.prog 19 #[sp q, .agg (bnC (sB 5) (.slice (some ⟨g, 0, none⟩) 1 1))] w (fun e w' => e = .returned (.int .i64 0) ∧ So W p q na 5 [b5] 0 10000 w') :=
 so_append W w p q na 5 [] 0 10000 h hT (by decide) (sB 5) [(sR 5, none, 0)] _ 1 hin sB_ok5 (by decide) (by rw [size5]; decide)
theorem lv_app6 (W w : World) (p q : Nat) (hT : Tab W) (g : Nat) (h : So W p q na 5 [b5] 22 10000 w) (hin : RsIn w (some ⟨g, 0, none⟩) [(sR 6, none, 0)]) :
  Calls Tryz.prog 19 #[sp q, .agg (bnC (sB 6) (.slice (some ⟨g, 0, none⟩) 1 1))] w (fun e w' => e = .returned (.int .i64 0) ∧ So W p q na 5 [b5, b6] 22 10000 w') :=
 so_append W w p q na 5 [b5] 22 10000 h hT (by decide) (sB 6) [(sR 6, none, 0)] _ 1 hin sB_ok6 (by decide) (by rw [size6, len5]; decide)
theorem lv_app7 (W w : World) (p q : Nat) (hT : Tab W) (g : Nat) (h : So W p q na 5 [b5, b6] 22 10000 w) (hin : RsIn w (some ⟨g, 0, none⟩) [(sR 6, none, 0)]) :
  Calls Tryz.prog 19 #[sp q, .agg (bnC (sB 6) (.slice (some ⟨g, 0, none⟩) 1 1))] w (fun e w' => e = .returned (.int .i64 1) ∧ So W p q na 5 [b5, b6] 22 10000 w') :=
 so_append_no W w p q na 5 [b5, b6] 22 10000 h hT (by decide) (sB 6) [(sR 6, none, 0)] _ 1 hin (by decide) (.inr (by decide))
theorem lv_sync (W w : World) (p q : Nat) (h : So W p q na 5 [b5] 0 10000 w) :
  Calls Tryz.prog 20 #[sp q] w (fun e w' => e = .returned (.int .i64 0) ∧ So W p q na 5 [b5] 22 10000 w') := by
 have := so_sync W w p q na 5 [b5] 0 10000 h
 rw [len5] at this
 exact this
theorem lv_end7 (W w : World) (p q : Nat) (h : So W p q na 5 [b5, b6] 22 10000 w) : Calls Tryz.prog 14 #[sp q] w (Good w (.int .i64 7)) :=
 so_end W w p q na 5 [b5, b6] 22 10000 h (by decide)
theorem lv_end6 (W w : World) (p q : Nat) (h : So W p q na 5 [b5] 22 10000 w) : Calls Tryz.prog 14 #[sp q] w (Good w (.int .i64 6)) :=
 so_end W w p q na 5 [b5] 22 10000 h (by decide)
theorem lv_size (W w : World) (p q : Nat) (h : So W p q na 5 [b5] 22 10000 w) : Calls Tryz.prog 16 #[sp q] w (Good w (.int .i64 22)) := by
 have := so_size W w p q na 5 [b5] 22 10000 h (by decide)
 rw [len5] at this
 exact this
theorem lv_used (W w : World) (p q : Nat) (h : So W p q na 5 [b5] 22 10000 w) : Calls Tryz.prog 26 #[Dk.dp p] w (Good w (.int .i64 22)) := by
 have := so_used W w p q na 5 [b5] 22 10000 h
 rw [len5] at this
 exact this
theorem lv_read (W w : World) (p q : Nat) (h : So W p q na 5 [b5] 22 10000 w) : Calls Tryz.prog 21 #[sp q, .int .i64 0, .int .i64 0] w (fun e w' => (∃ A c, e = .returned (.slice A 1 c)) ∧ Below w.heap.size w w') := by
 refine (so_read W w p q na 5 [b5] 22 10000 h (by decide) 0 0).mono ?_
 rintro e w' ⟨M, A, c, hM, rfl, _, hb⟩
 have : M.length = 1 := by rw [← List.length_map (f := BX.told), hM]; rfl
 rw [this]
 exact ⟨⟨A, c, rfl⟩, hb⟩
theorem lv_crash (W w : World) (p q : Nat) (h : So W p q na 5 [b5, b6] 22 10000 w) (ty : TypeId) (g : Nat) (hg : Box w g ty #[.int .i64 9]) (hno : ¬ AtS W w g) :
  Calls Tryz.prog 23 #[Dk.dp p, .slice (some ⟨g, 0, none⟩) 1 1] w (fun e w' => (∃ v, e = .returned (.int .i64 v)) ∧ Dn W p na ((bytesN [b5, b6]).take 31) 31 10000 w') := by
 have hl : (bytesN [b5, b6]).length = 44 := by rw [lenN_bytes, len56]
 refine (so_crash W w p na (bytesN [b5, b6]) 22 10000 (fun k => k = g) h.dn (by rw [hl]; decide) _ 1 [9] (by decide) (fun k hk e => hno (e ▸ hk)) ⟨fun n hn => ?_, fun _ => ⟨g, 0, rfl, hg.lt, fun hc => hc rfl, fun j hj => ?_⟩⟩).mono ?_
 ·
  have : n = 9 := by simpa using hn
  subst this
  decide
 ·
  match j with
  | 0 => exact hg.cell 0
  | j + 1 => exact absurd hj (by simp)
 ·
  rintro e w' ⟨hv, m, _, _, hd, hm⟩
  rw [hl] at hm
  have e31 : m = 31 := hm (by decide)
  rw [e31] at hd
  exact ⟨hv, hd⟩
theorem lv_open2 (W w : World) (p : Nat) (hT : Tab W) (h : Dn W p na ((bytesN [b5, b6]).take 31) 31 10000 w) :
  Calls Tryz.prog 9 #[Dk.dp p, .string na, .int .i64 5, .int .i64 10] w (fun e w' => ∃ q, e = .returned (.tuple #[sp q, .int .i64 0]) ∧ So W p q na 5 [b5] 22 10000 w') := by
 refine (so_open W w p na 5 10 [b5, b6] 31 31 10000 h (by rw [len56]; decide) (fun x hx => ?_) ⟨by decide, by decide, trivial⟩ hT op_a (by decide) (Nat.le_refl _)).mono ?_
 ·
  rcases List.mem_cons.1 hx with rfl | hx
  ·
   exact sB_ok5
  ·
   have : x = b6 := by simpa using hx
   subst this
   exact sB_ok6
 ·
  rintro e w' ⟨q, j, rfl, j1, j2, j3, h⟩
  have h1 : 1 ≤ j := j3 1 (by decide) (by show lenN [b5] ≤ 31; rw [len5]; decide)
  have h2 : j ≠ 2 := fun e => by
   rw [e] at j2
   have : lenN [b5, b6] ≤ 31 := j2
   rw [len56] at this
   exact absurd this (by decide)
  have j1' : j ≤ 2 := j1
  have hj : j = 1 := by omega
  subst hj
  have h' : So W p q na 5 [b5] (min 31 (lenN [b5])) 10000 w' := h
  rw [len5] at h'
  exact ⟨q, rfl, h'⟩
set_option maxHeartbeats 16000000 in
set_option maxRecDepth 100000 in
theorem live10_c (W : World) (hT : Tab W) : Calls Tryz.prog 8 #[] W (Good W (.bool true)) := by
 have c1 := lv_new W
 have HT := Lib.hid hT
 clear hT
 unfold Dk.dp at *
 go_enter Tryz.func8, Tryz.ntmps8
 go_wp2_with fail
 (with_reducible refine c1.mono ?_)
 rintro e w1 ⟨rfl, hd⟩
 have c2 := so_open0 W w1 W.heap.size na 5 10 10000 hd HT.out op_a
 unfold na Dk.dp sp at c2
 clear c1 hd
 go_wp2_with fail
 (with_reducible refine c2.mono ?_)
 rintro e w2 ⟨q, rfl, hs⟩
 have HS := Lib.hid hs
 have c3 := open_nil na 5 10 w2
 unfold na at c3
 clear c2 hs
 go_wp2_with fail
 (with_reducible refine c3.mono ?_)
 rintro e w3 ⟨rfl, hb⟩
 have HS3 := Lib.hid (HS.out.later hb)
 have c4 := simple_c 5 w3
 clear c3 hb HS
 go_upto_region 6 with fail
 (try go_wp2_with fail)
 (with_reducible refine c4.mono ?_)
 rintro e w4 ⟨g4, rfl, hr, hb⟩
 have c5 := lv_app5 W w4 W.heap.size q HT.out g4 (HS3.out.later hb) hr
 unfold sB bnC sp at *
 clear c4 hr hb HS3
 go_wp2_with fail
 (with_reducible refine c5.mono ?_)
 rintro e w5 ⟨rfl, hs⟩
 have c6 := lv_sync W w5 W.heap.size q hs
 unfold sp at c6
 clear c5 hs
 go_wp2_with fail
 (with_reducible refine c6.mono ?_)
 rintro e w6 ⟨rfl, hs⟩
 have HS6 := Lib.hid hs
 have c7 := simple_c 6 w6
 clear c6 hs
 go_wp2_with fail
 (with_reducible refine c7.mono ?_)
 rintro e w7 ⟨g7, rfl, hr, hb⟩
 have c8 := lv_app6 W w7 W.heap.size q HT.out g7 (HS6.out.later hb) hr
 unfold sB bnC sp at *
 clear c7 hr hb HS6
 go_wp2_with fail
 (with_reducible refine c8.mono ?_)
 rintro e w8 ⟨rfl, hs⟩
 have HS8 := Lib.hid hs
 have c9 := simple_c 6 w8
 clear c8 hs
 go_wp2_with fail
 (with_reducible refine c9.mono ?_)
 rintro e w9 ⟨g9, rfl, hr, hb⟩
 have c10 := lv_app7 W w9 W.heap.size q HT.out g9 (HS8.out.later hb) hr
 unfold sB bnC sp at *
 clear c9 hr hb HS8
 go_wp2_with fail
 (with_reducible refine c10.mono ?_)
 rintro e w10 ⟨rfl, hs⟩
 have HS10 := Lib.hid hs
 have c11 := lv_end7 W w10 W.heap.size q hs
 unfold sp at c11
 clear c10 hs
 go_wp2_with fail
 (with_reducible refine c11.mono ?_)
 rintro e w11 ⟨rfl, hb⟩
 have HS11 := Lib.hid (HS10.out.later hb)
 clear c11 hb HS10
 have hB := Box.new w11 3 #[.int .i64 9]
 have hb : Below w11.heap.size w11 (w11.alloc (.cells #[.int .i64 9] 3)) := (Below.refl _ _).alloc (Nat.le_refl _) _
 have c12 := lv_crash W _ W.heap.size q (HS11.out.later hb) 3 w11.heap.size hB (not_at hB rfl)
 unfold Dk.dp at c12
 clear hb hB HS11
 go_wp2_with fail
 (with_reducible refine c12.mono ?_)
 rintro e w12 ⟨⟨v12, rfl⟩, hd⟩
 have c13 := lv_open2 W w12 W.heap.size HT.out hd
 unfold na Dk.dp sp at c13
 clear c12 hd
 go_wp2_with fail
 (with_reducible refine c13.mono ?_)
 rintro e w13 ⟨q2, rfl, hs⟩
 have HS13 := Lib.hid hs
 have c14 := lv_end6 W w13 W.heap.size q2 hs
 unfold sp at c14
 clear c13 hs
 go_wp2_with fail
 (with_reducible refine c14.mono ?_)
 rintro e w14 ⟨rfl, hb⟩
 have HS14 := Lib.hid (HS13.out.later hb)
 have c15 := lv_read W w14 W.heap.size q2 HS14.out
 unfold sp at c15
 clear c14 hb HS13
 go_wp2_with fail
 (with_reducible refine c15.mono ?_)
 rintro e w15 ⟨⟨A, c, rfl⟩, hb⟩
 have HS15 := Lib.hid (HS14.out.later hb)
 have c16 := lv_size W w15 W.heap.size q2 HS15.out
 unfold sp at c16
 clear c15 hb HS14
 go_wp2_with fail
 (with_reducible refine c16.mono ?_)
 rintro e w16 ⟨rfl, hb⟩
 have HS16 := Lib.hid (HS15.out.later hb)
 have c17 := lv_used W w16 W.heap.size q2 HS16.out
 unfold Dk.dp at c17
 clear c16 hb HS15
 go_wp2_with fail
 (with_reducible refine c17.mono ?_)
 rintro e w17 ⟨rfl, hb⟩
 have HS17 := Lib.hid (HS16.out.later hb)
 clear c17 hb HS16
 go_wp2_with fail
 go_ret
 exact ⟨rfl, HS17.out.bel⟩
end Go.Proofs.YtjnphajkoopkgaaGreatDoor
