import Derived.Test.YtammmdoabjgjfaaDoorBatSm2
import Derived.Test.YtammmdoabjgjfaaDoorBatScan
import Derived.Test.YtammmdoabjgjfaaDoorBatEnc
import Derived.BigQuiet
import Derived.Deep.QuietTactic
import Derived.Deep.RegionHeld3
/- live: some answers that the document gives. Condition: the table of sums. -/
namespace Go.Proofs.YtammmdoabjgjfaaDoor
open Go.RowKit
set_option linter.unusedVariables false
def liveR5 : Rec := ⟨0, 0, false, ⟨#[107]⟩, false, ⟨#[118]⟩, []⟩
def liveN5 : BN := ⟨5, 1, -1, -1, -1⟩
def liveX5 : List RX := [(liveR5, none, 0)]
def liveS5 : ByteArray := ⟨#[0, 0, 0, 14, 149, 218, 129, 3, 10, 2, 1, 1, 1, 2, 0, 0, 0, 2, 107, 2, 118, 0]⟩
theorem live_enc : encV liveN5 liveX5 = .tuple #[.string liveS5, .int .i64 0] := by kernel_rfl
theorem live_zero : encV ⟨0, 0, 0, 0, 0⟩ [] = .tuple #[.string ⟨#[]⟩, .int .i64 1] := by kernel_rfl
theorem live_bat : batE liveN5 liveX5 = 0 := by kernel_rfl
theorem live_dec : decG liveS5 0 = (liveN5, [liveR5], 22, 0) := by kernel_rfl
theorem live_scan : scanG (liveS5 ++ liveS5.extract 0 9) 32 0 = ([(liveN5, [liveR5])], 22) := by kernel_rfl
theorem live_size : (liveS5 ++ liveS5.extract 0 9).size = 31 := by kernel_rfl
theorem liveS5_size : liveS5.size = 22 := rfl
theorem live_ok : okRec liveR5 = true := by decide +kernel
theorem live_rs {w : World} {b : Nat} (h : Box w b 49 #[.int .i64 0, .int .i64 0, .bool false, .string ⟨#[107]⟩, .bool false, .string ⟨#[118]⟩, .slice none 0 0]) : RsIn w (some ⟨b, 0, none⟩) liveX5 := fun _ => by
  refine ⟨b, 0, rfl, h.lt, fun j x hx => ?_⟩
  unfold liveX5 at hx
  match j, hx with
  | 0, hx =>
    obtain rfl : (liveR5, none, 0) = x := by simpa using hx
    refine ⟨⟨?_, ?_, ?_, ?_, ?_, ?_, ?_⟩, HIn.nil _ _, by decide, by decide, by decide, fun h hh => by cases hh⟩
    · exact (h.cell 0).trans rfl
    · exact (h.cell 1).trans rfl
    · exact (h.cell 2).trans rfl
    · exact (h.cell 3).trans rfl
    · exact (h.cell 4).trans rfl
    · exact (h.cell 5).trans rfl
    · exact (h.cell 6).trans rfl
set_option maxHeartbeats 8000000 in
set_option maxRecDepth 100000 in
theorem live5_c (W : World) (hT : Tab W) : Calls Tryd.prog 10 #[] W (Good W (.bool true)) := by
  obtain ⟨W1, hW1⟩ : ∃ w, (W.alloc (.cells #[.int .i64 0, .int .i64 0, .bool false, .string ⟨#[107]⟩, .bool false, .string ⟨#[118]⟩, .slice none 0 0] 49)).alloc (.cells #[.int .i64 5, .int .i64 1, .int .i64 (-1), .int .i64 (-1), .int .i64 (-1), .slice (some ⟨W.heap.size, 0, none⟩) 1 1] 24) = w := ⟨_, rfl⟩
  have hb1 : Below W.heap.size W W1 := by
    rw [← hW1]
    exact ((Below.refl _ W).alloc (Nat.le_refl _) _).alloc (by simp) _
  have hr1 : Box W1 W.heap.size 49 #[.int .i64 0, .int .i64 0, .bool false, .string ⟨#[107]⟩, .bool false, .string ⟨#[118]⟩, .slice none 0 0] := by
    rw [← hW1]
    exact (Box.new W _ _).alloc _
  have hx1 : Box W1 (W.heap.size + 1) 24 #[.int .i64 5, .int .i64 1, .int .i64 (-1), .int .i64 (-1), .int .i64 (-1), .slice (some ⟨W.heap.size, 0, none⟩) 1 1] := by
    rw [← hW1]
    have := Box.new (W.alloc (.cells #[.int .i64 0, .int .i64 0, .bool false, .string ⟨#[107]⟩, .bool false, .string ⟨#[118]⟩, .slice none 0 0] 49)) 24 #[.int .i64 5, .int .i64 1, .int .i64 (-1), .int .i64 (-1), .int .i64 (-1), .slice (some ⟨W.heap.size, 0, none⟩) 1 1]
    rw [World.size_alloc] at this
    exact this
  have E1 : Hid (∀ w, Below W1.heap.size W1 w → Calls Tryd.prog 12 #[.agg #[.int .i64 5, .int .i64 1, .int .i64 (-1), .int .i64 (-1), .int .i64 (-1), .slice (some ⟨W.heap.size, 0, none⟩) 1 1]] w (Good w (.tuple #[.string liveS5, .int .i64 0]))) := Lib.hid (fun w hb => by
    have h := pencode_c liveN5 (some ⟨W.heap.size, 0, none⟩) 1 liveX5 w (live_rs (hr1.later hb)) (by decide) (hT.below (hb1.trans (hb.mono hb1.size)))
    rw [live_enc] at h
    exact h)
  have C1 : Hid (∀ w, Below W1.heap.size W1 w → Calls Tryd.prog 14 #[.agg #[.int .i64 5, .int .i64 1, .int .i64 (-1), .int .i64 (-1), .int .i64 (-1), .slice (some ⟨W.heap.size, 0, none⟩) 1 1]] w (Good w (.int .i64 0))) := Lib.hid (fun w hb => by
    have h := pcheck5_c liveN5 (some ⟨W.heap.size, 0, none⟩) 1 liveX5 w (live_rs (hr1.later hb)) (by decide)
    rw [live_bat] at h
    exact h)
  have Z1 : Hid (∀ w, Tab w → Calls Tryd.prog 12 #[.agg #[.int .i64 0, .int .i64 0, .int .i64 0, .int .i64 0, .int .i64 0, .slice none 0 0]] w (Good w (.tuple #[.string ⟨#[]⟩, .int .i64 1]))) := Lib.hid (fun w ht => by
    have h := pencode_c ⟨0, 0, 0, 0, 0⟩ none 0 [] w (fun hp => by cases hp) (by decide) ht
    rw [live_zero] at h
    exact h)
  have D1 : Hid (∀ w, Tab w → Calls Tryd.prog 17 #[.string liveS5, .int .i64 0] w (fun en w' => ∃ A c a n, en = .returned (.tuple #[.agg #[.int .i64 5, .int .i64 1, .int .i64 (-1), .int .i64 (-1), .int .i64 (-1), .slice A 1 c], .int .i64 22, .int .i64 0]) ∧ RsIn w' A [(liveR5, a, n)] ∧ Below w.heap.size w w')) := Lib.hid (fun w ht => by
    have h := pdecode5_c liveS5 0 w (by decide) ht
    rw [live_dec] at h
    refine h.mono fun en w' ⟨L, A, c, hL, he, hrow, hb⟩ => ?_
    have hl : L.length = 1 := by have := congrArg List.length hL; simpa using this
    obtain ⟨x, rfl⟩ : ∃ x, L = [x] := List.length_eq_one_iff.1 hl
    obtain ⟨r, a, n⟩ := x
    obtain rfl : r = liveR5 := by simpa using hL
    exact ⟨A, c, a, n, he, hrow.rsin (fun x hx => by
      have e : x = (liveR5, a, n) := by simpa using hx
      rw [e]
      exact live_ok), hb⟩)
  have S1 : Hid (∀ w, Tab w → Calls Tryd.prog 19 #[.string (liveS5 ++ liveS5.extract 0 9)] w (fun en w' => ∃ A c, en = .returned (.tuple #[.slice A 1 c, .int .i64 22]) ∧ Below w.heap.size w w')) := Lib.hid (fun w ht => by
    have h := pscan_c (liveS5 ++ liveS5.extract 0 9) w (by rw [live_size]; decide) ht
    rw [live_size, live_scan] at h
    refine h.mono fun en w' ⟨L, A, c, hL, he, hrow, hb⟩ => ?_
    have hl : L.length = 1 := by have := congrArg List.length hL; simpa using this
    rw [hl] at he
    exact ⟨A, c, he, hb⟩)
  have M1 : Hid (∀ w A c a n, Below W1.heap.size W1 w → RsIn w A [(liveR5, a, n)] → Calls Tryd.prog 16 #[.agg #[.int .i64 5, .int .i64 1, .int .i64 (-1), .int .i64 (-1), .int .i64 (-1), .slice (some ⟨W.heap.size, 0, none⟩) 1 1], .agg #[.int .i64 5, .int .i64 1, .int .i64 (-1), .int .i64 (-1), .int .i64 (-1), .slice A 1 c]] w (Good w (.bool true))) := Lib.hid (fun w A c a n hb hA =>
    rsame5_c liveN5 liveX5 [(liveR5, a, n)] (some ⟨W.heap.size, 0, none⟩) A 1 c w (live_rs (hr1.later hb)) hA rfl (by decide) (fun x hx => by
      have e : x = ((liveR5, none, 0) : RX) := by simpa [liveX5] using hx
      rw [e]
      decide))
  have HT := Lib.hid (fun w (hb : Below W1.heap.size W1 w) => hT.below (hb1.trans (hb.mono hb1.size)))
  have H1 := Lib.hid (And.intro hb1 hx1)
  have k1 : ∀ w, (Op.stringOp .add liveS5 (liveS5.extract 0 9)).run Tryd.prog w = .ok (.string (liveS5 ++ liveS5.extract 0 9)) w := fun w => run_string_add_sum (w := w) _ _ (by decide)
  have k2 : ∀ w, (Instr.slice 9 (.string liveS5) none (some (.int .i64 9)) none).run Tryd.prog w = .ok (.string (liveS5.extract 0 9)) w := fun w => by kernel_rfl
  have z22 : liveS5.size = 22 := rfl
  obtain ⟨x0, x1, x2, x3, x4, x5, _, _, _, _, _, _⟩ := box_six hx1
  clear hb1 hr1 hx1 hT
  go_enter Tryd.func10, Tryd.ntmps10
  go_wp2_with fail
  (with_reducible refine (E1.out _ (Below.refl _ _)).mono ?_)
  rintro en w2 ⟨rfl, hb2⟩
  have H2 := Lib.hid hb2
  clear hb2 x0 x1 x2 x3 x4 x5 hW1
  go_wp2_with fail
  (with_reducible refine (D1.out _ (HT.out _ H2.out)).mono ?_)
  rintro en w3 ⟨A, c, a, n, rfl, hrs, hb3⟩
  have hb3' := H2.out.trans (hb3.mono H2.out.size)
  have hbx := Box.new w3 24 #[.int .i64 5, .int .i64 1, .int .i64 (-1), .int .i64 (-1), .int .i64 (-1), .slice A 1 c]
  have hal := (Below.refl w3.heap.size w3).alloc (Nat.le_refl _) (.cells #[.int .i64 5, .int .i64 1, .int .i64 (-1), .int .i64 (-1), .int .i64 (-1), .slice A 1 c] 24)
  have H3 := Lib.hid (And.intro (hb3'.trans (hal.mono hb3'.size)) (And.intro hbx (hrs.below hal)))
  clear hb3 hb3' hbx hal hrs H2
  go_wp2_with fail
  rw [show (min (22 : Int) 9).toNat = 9 by decide +kernel]
  (with_reducible refine (S1.out _ (HT.out _ H3.out.1)).mono ?_)
  rintro en w4 ⟨A4, c4, rfl, hb4⟩
  have H4 := Lib.hid (And.intro (H3.out.1.trans (hb4.mono H3.out.1.size)) (And.intro (H3.out.2.1.later hb4) (H3.out.2.2.below hb4)))
  clear hb4 H3
  go_wp2_with fail
  (with_reducible refine (Z1.out _ (HT.out _ H4.out.1)).mono ?_)
  rintro en w5 ⟨rfl, hb5⟩
  have H5 := Lib.hid (And.intro (H4.out.1.trans (hb5.mono H4.out.1.size)) (And.intro (H4.out.2.1.later hb5) (H4.out.2.2.below hb5)))
  clear hb5 H4
  obtain ⟨x0, x1, x2, x3, x4, x5, _, _, _, _, _, _⟩ := box_six (H1.out.2.later H5.out.1)
  obtain ⟨y0, y1, y2, y3, y4, y5, _, _, _, _, _, _⟩ := box_six H5.out.2.1
  go_wp2_with fail
  (with_reducible refine (M1.out _ _ _ _ _ H5.out.1 H5.out.2.2).mono ?_)
  rintro en w6 ⟨rfl, hb6⟩
  have H6 := Lib.hid (H5.out.1.trans (hb6.mono H5.out.1.size))
  obtain ⟨q0, q1, q2, q3, q4, q5, _, _, _, _, _, _⟩ := box_six (H1.out.2.later H6.out)
  clear hb6 x0 x1 x2 x3 x4 x5 y0 y1 y2 y3 y4 y5
  go_wp2_with fail
  (with_reducible refine (C1.out _ H6.out).mono ?_)
  rintro en w7 ⟨rfl, hb7⟩
  have H7 := Lib.hid (H1.out.1.trans ((H6.out.trans (hb7.mono H6.out.size)).mono H1.out.1.size))
  clear hb7 q0 q1 q2 q3 q4 q5
  go_wp2_with fail
  go_ret
  exact ⟨rfl, H7.out⟩
end Go.Proofs.YtammmdoabjgjfaaDoor

/- The document's Small of a batch: what it says when it says yes. -/
namespace Go.Proofs.YtammmdoabjgjfaaDoor
open Go.RowKit
set_option linter.unusedVariables false
def smallR (r : Rec) : Prop := r.heads.length ≤ 12 ∧ r.key.size ≤ 3000 ∧ r.value.size ≤ 3000 ∧ ∀ h ∈ r.heads, h.1.size ≤ 3000 ∧ h.2.size ≤ 3000
def SmallL (L : List RX) : Prop := L.length ≤ 50 ∧ ∀ x ∈ L, smallR x.1
def GotSm (W : World) (L : List RX) (en : Ending) (w' : World) : Prop := ∃ res, en = .returned (.bool res) ∧ (res = true → SmallL L) ∧ Below W.heap.size W w'
structure SmlS (W : World) (cs : Array Value) (L : List RX) (k : Nat) (w : World) : Prop where
  box : Box w W.heap.size 24 cs
  bel : Below W.heap.size W w
  all : ∀ x ∈ L.take k, smallR x.1
theorem SmlS.later {W w w' : World} {cs : Array Value} {L : List RX} {k : Nat} (h : SmlS W cs L k w) (hb : Below w.heap.size w w') : SmlS W cs L k w' := ⟨h.box.later hb, h.bel.trans (hb.mono h.bel.size), h.all⟩
theorem SmlS.next {W w w' : World} {cs : Array Value} {L : List RX} {k : Nat} {x : RX} (h : SmlS W cs L k w) (hb : Below w.heap.size w w') (hx : L[k]? = some x) (hs : smallR x.1) : SmlS W cs L (k + 1) w' := by
  refine ⟨(h.later hb).box, (h.later hb).bel, fun y hy => ?_⟩
  obtain ⟨hk, he⟩ := List.getElem?_eq_some_iff.1 hx
  rw [List.take_succ_eq_append_getElem hk, List.mem_append] at hy
  rcases hy with hy | hy
  · exact h.all y hy
  · simp at hy
    subst hy
    rw [he]; exact hs
/-- The inner loop's state. -/
structure SmhS (w0 : World) (g : Nat) (cs : Array Value) (A : Option Addr) (hs : List Hd) (k : Nat) (w : World) : Prop where
  box : Box w g 49 cs
  bel : Below w0.heap.size w0 w
  rin : HIn w A hs
  all : ∀ h ∈ hs.take k, h.1.size ≤ 3000 ∧ h.2.size ≤ 3000
theorem SmhS.later {w0 w w' : World} {g : Nat} {cs : Array Value} {A : Option Addr} {hs : List Hd} {k : Nat} (h : SmhS w0 g cs A hs k w) (hb : Below w.heap.size w w') : SmhS w0 g cs A hs k w' := ⟨h.box.later hb, h.bel.trans (hb.mono h.bel.size), h.rin.below hb, h.all⟩
theorem SmhS.next {w0 w : World} {g : Nat} {cs : Array Value} {A : Option Addr} {hs : List Hd} {k : Nat} (h : SmhS w0 g cs A hs k w) (hk : k < hs.length) (h1 : hs[k].1.size ≤ 3000) (h2 : hs[k].2.size ≤ 3000) : SmhS w0 g cs A hs (k + 1) w := by
  refine ⟨h.box, h.bel, h.rin, fun y hy => ?_⟩
  rw [List.take_succ_eq_append_getElem hk, List.mem_append] at hy
  rcases hy with hy | hy
  · exact h.all y hy
  · simp at hy
    subst hy
    exact ⟨h1, h2⟩
set_option maxHeartbeats 16000000 in
set_option maxRecDepth 100000 in
theorem rsmall_c (b : BN) (L : List RX) (A : Option Addr) (c : Nat) (W : World) (hA : RsIn W A L) (hlen : L.length ≤ 140737488351232) :
    Calls Tryd.prog 9 #[.agg (bnC b (.slice A L.length c))] W (GotSm W L) := by
  obtain ⟨base, span, prod, epoch, seq⟩ := b
  unfold bnC
  simp only
  obtain ⟨W1, hW1⟩ : ∃ w, W.alloc (.cells #[.int .i64 base, .int .i64 span, .int .i64 prod, .int .i64 epoch, .int .i64 seq, .slice A L.length c] 24) = w := ⟨_, rfl⟩
  have hS0 : SmlS W #[.int .i64 base, .int .i64 span, .int .i64 prod, .int .i64 epoch, .int .i64 seq, .slice A L.length c] L 0 W1 := by
    rw [← hW1]
    exact ⟨Box.new W _ _, (Below.refl _ W).alloc (Nat.le_refl _) _, fun x hx => by simp at hx⟩
  have y5 := (hS0.box.cell 5).trans (show _ = some (Value.slice A L.length c) from rfl)
  have HS0 := Lib.hid hS0
  have HA := Lib.hid hA
  clear hS0 hA
  by_cases h50 : 50 < L.length
  · have h50' : (50 : Int) < (L.length : Int) := by omega
    go_enter Tryd.func9, Tryd.ntmps9
    go_wp2_with fail
    go_ret
    exact ⟨false, rfl, (fun e => by cases e), HS0.out.bel⟩
  have h50' : ¬ (50 : Int) < (L.length : Int) := by omega
  go_enter Tryd.func9, Tryd.ntmps9
  go_wp2_with fail
  clear hW1 y5 h50'
  go_loopw [3, 4] (fun n i wr => ∃ (k m : Nat), i = .int .i64 k ∧ k ≤ L.length ∧ n = .int .i64 m ∧ m ≤ 3000 ∧ SmlS W #[.int .i64 base, .int .i64 span, .int .i64 prod, .int .i64 epoch, .int .i64 seq, .slice A L.length c] L k wr) (fun _ i _ => L.length - (intOf i).toNat)
  case atStart => exact ⟨0, 0, rfl, Nat.zero_le _, rfl, by omega, HS0.out⟩
  case round =>
    obtain ⟨k, m, rfl, hkl, rfl, hm, hS⟩ := hrel
    clear HS0
    have y5 := (hS.box.cell 5).trans (show _ = some (Value.slice A L.length c) from rfl)
    have HS := Lib.hid hS
    by_cases hk : k < L.length
    · obtain ⟨x, hx⟩ : ∃ x, L[k]? = some x := ⟨_, List.getElem?_eq_getElem hk⟩
      obtain ⟨bb, off, rfl, hbl, hca⟩ := (HA.out.below hS.bel) (by omega)
      obtain ⟨⟨x0, x1, x2, x3, x4, x5, x6⟩, hR⟩ := hca k x hx
      have HN := Lib.hid (fun w' hb (hs : smallR x.1) => hS.next (w' := w') hb hx hs)
      clear hca hx hS hbl
      obtain ⟨⟨place, time, bare, key, gone, value, heads⟩, A1, c1⟩ := x
      have hki : (k : Int) < (L.length : Int) := by omega
      have hhl : heads.length ≤ 140737488351232 := hR.len
      have hkz : key.size ≤ 1152921504606846976 := hR.key
      have hvz : value.size ≤ 1152921504606846976 := hR.value
      have hez := hR.each
      simp only at x0 x1 x2 x3 x4 x5 x6 hez
      obtain ⟨w0, hw0⟩ : ∃ w, wr.alloc (.cells #[.int .i64 place, .int .i64 time, .bool bare, .string key, .bool gone, .string value, .slice A1 heads.length c1] 49) = w := ⟨_, rfl⟩
      have hb0 : Below wr.heap.size wr w0 := by rw [← hw0]; exact (Below.refl _ _).alloc (Nat.le_refl _) _
      have hH : SmhS w0 wr.heap.size #[.int .i64 place, .int .i64 time, .bool bare, .string key, .bool gone, .string value, .slice A1 heads.length c1] A1 heads 0 w0 := by
        refine ⟨by rw [← hw0]; exact Box.new _ _ _, Below.refl _ _, hR.heads.below hb0, fun h hh => by simp at hh⟩
      have r3 := (hH.box.cell 3).trans (show _ = some (Value.string key) from rfl)
      have r5 := (hH.box.cell 5).trans (show _ = some (Value.string value) from rfl)
      have r6 := (hH.box.cell 6).trans (show _ = some (Value.slice A1 heads.length c1) from rfl)
      have HH := Lib.hid (And.intro hb0 hH)
      have HF := Lib.hid (HS.out.later hb0).bel
      clear hb0 hH hR
      by_cases h12 : 12 < heads.length
      · have h12' : (12 : Int) < (heads.length : Int) := by omega
        go_wp2_with fail
        go_ret
        exact ⟨false, rfl, (fun e => by cases e), HF.out⟩
      have h12' : ¬ (12 : Int) < (heads.length : Int) := by omega
      by_cases h13 : 3000 < key.size
      · have h13' : (3000 : Int) < (key.size : Int) := by omega
        go_wp2_with fail
        go_ret
        exact ⟨false, rfl, (fun e => by cases e), HF.out⟩
      have h13' : ¬ (3000 : Int) < (key.size : Int) := by omega
      by_cases h14 : 3000 < value.size
      · have h14' : (3000 : Int) < (value.size : Int) := by omega
        go_wp2_with fail
        go_ret
        exact ⟨false, rfl, (fun e => by cases e), HF.out⟩
      have h14' : ¬ (3000 : Int) < (value.size : Int) := by omega
      go_wp2_with fail
      clear hw0 r3 r5 h12' h13' h14'
      go_loopw [3, 6] (fun n j w => ∃ (j2 n2 : Nat), j = .int .i64 j2 ∧ j2 ≤ heads.length ∧ n = .int .i64 n2 ∧ n2 ≤ 9000 ∧ SmhS w0 wr.heap.size #[.int .i64 place, .int .i64 time, .bool bare, .string key, .bool gone, .string value, .slice A1 heads.length c1] A1 heads j2 w) (fun _ j _ => heads.length - (intOf j).toNat)
      case atStart => exact ⟨0, m + key.size + value.size, rfl, Nat.zero_le _, by simp, by omega, HH.out.2⟩
      case round =>
        obtain ⟨j2, n2, rfl, hj2, rfl, hn2, hI⟩ := hrel
        have r6' := (hI.box.cell 6).trans (show _ = some (Value.slice A1 heads.length c1) from rfl)
        clear r6
        by_cases hj : j2 < heads.length
        · by_cases hn : n2 ≤ 3000
          · obtain ⟨hb2, ho2, rfl, hl2, q1, q2⟩ := hI.rin.at_ hj
            have ez := hez _ (List.getElem_mem hj)
            have HIN := Lib.hid hI
            have HNX := Lib.hid (hI.next hj)
            have HB2 := Lib.hid (HF.out.trans (hI.bel.mono HF.out.size))
            clear hI hez
            have hji : (j2 : Int) < (heads.length : Int) := by omega
            have hni : (n2 : Int) ≤ 3000 := by omega
            generalize heads[j2].1 = z1 at *
            generalize heads[j2].2 = z2 at *
            by_cases h15 : 3000 < z1.size
            · have h15' : (3000 : Int) < (z1.size : Int) := by omega
              go_wp2_with fail
              go_ret
              exact ⟨false, rfl, (fun e => by cases e), HB2.out⟩
            have h15' : ¬ (3000 : Int) < (z1.size : Int) := by omega
            by_cases h16 : 3000 < z2.size
            · have h16' : (3000 : Int) < (z2.size : Int) := by omega
              go_wp2_with fail
              go_ret
              exact ⟨false, rfl, (fun e => by cases e), HB2.out⟩
            have h16' : ¬ (3000 : Int) < (z2.size : Int) := by omega
            go_wp2_with fail
            go_quiet (fail)
            go_wp2_with fail
            go_roundw
            case rel => exact ⟨j2 + 1, n2 + z1.size + z2.size, by go_num, hj, by simp, by omega, (HNX.out (by omega) (by omega)).later ⟨rfl, rfl, rfl, Nat.le_refl _, fun _ _ => rfl⟩⟩
            case measure => simp [intOf]; omega
          · have hn' : ¬ (n2 : Int) ≤ 3000 := by omega
            have hji : (j2 : Int) < (heads.length : Int) := by omega
            have HB2 := Lib.hid (HF.out.trans (hI.bel.mono HF.out.size))
            have hn3 : (3000 : Int) < (n2 : Int) := by omega
            clear hI hez
            go_wp2_with fail
            go_ret
            exact ⟨false, rfl, (fun e => by cases e), HB2.out⟩
        · have hji : ¬ (j2 : Int) < (heads.length : Int) := by omega
          have hsr : smallR ⟨place, time, bare, key, gone, value, heads⟩ := ⟨by show heads.length ≤ 12; omega, by show key.size ≤ 3000; omega, by show value.size ≤ 3000; omega, fun h hh => hI.all h (by rw [List.take_of_length_le (by omega)]; exact hh)⟩
          have HNN := Lib.hid (HN.out _ (HH.out.1.trans (hI.bel.mono HH.out.1.size)) hsr)
          have HB2 := Lib.hid (HF.out.trans (hI.bel.mono HF.out.size))
          clear hI hez hsr
          by_cases hn : n2 ≤ 3000
          · have hni : ¬ (3000 : Int) < (n2 : Int) := by omega
            go_wp2_with fail
            go_roundw
            case rel => exact ⟨k + 1, n2, by go_num, hk, rfl, hn, HNN.out⟩
            case measure => simp [intOf]; omega
          · have hni : (3000 : Int) < (n2 : Int) := by omega
            go_wp2_with fail
            go_ret
            exact ⟨false, rfl, (fun e => by cases e), HB2.out⟩
    · have hF : SmallL L := ⟨by omega, fun x hx => hS.all x (by rw [List.take_of_length_le (by omega)]; exact hx)⟩
      have HF := Lib.hid (And.intro hF hS.bel)
      clear hS hF
      go_wp2_with fail
      go_ret
      exact ⟨true, rfl, (fun _ => HF.out.1), HF.out.2⟩
end Go.Proofs.YtammmdoabjgjfaaDoor

/- The law BatchEncodes walks to true for every batch. Condition: the table of sums. -/
namespace Go.Proofs.YtammmdoabjgjfaaDoor
open Go.RowKit
set_option linter.unusedVariables false
theorem encsL_map (L : List RX) : encsL L = (L.map (·.1)).flatMap encL := by simp [encsL, List.flatMap_map]
theorem placedL_congr (span : Int) {L M : List RX} (last : Int) (h : M.map (·.1) = L.map (·.1)) : placedL span last M = placedL span last L := by rw [placedL_map, placedL_map, h]
theorem goodL_congr (span : Int) {L M : List RX} (last : Int) (h : M.map (·.1) = L.map (·.1)) : goodL span last M = goodL span last L := by
  rw [goodL_eq, goodL_eq, placedL_congr span last h]
  have e : ∀ K : List RX, (K.all fun x => okRec x.1) = (K.map (·.1)).all okRec := fun K => by simp [List.all_map, Function.comp_def]
  rw [e, e, h]
theorem bodyL_congr (b : BN) {L M : List RX} (h : M.map (·.1) = L.map (·.1)) : bodyL b M = bodyL b L := by
  have hl : M.length = L.length := by have := congrArg List.length h; simpa using this
  unfold bodyL
  rw [encsL_map, encsL_map, h, hl]
theorem batB_congr (b : BN) {L M : List RX} (h : M.map (·.1) = L.map (·.1)) : batB b M = batB b L := by
  have hl : M.length = L.length := by have := congrArg List.length h; simpa using this
  unfold batB
  rw [goodL_congr _ _ h, bodyL_congr b h, hl]
theorem batE_congr (b : BN) {L M : List RX} (h : M.map (·.1) = L.map (·.1)) : batE b M = batE b L := by unfold batE; rw [batB_congr b h]
theorem encV_congr (b : BN) {L M : List RX} (h : M.map (·.1) = L.map (·.1)) : encV b M = encV b L := by
  unfold encV encB bodyB
  rw [batB_congr b h, bodyL_congr b h, batE_congr b h]
theorem smallR_rin {w : World} {r : Rec} {A : Option Addr} {c : Nat} (h : smallR r) (hh : HIn w A r.heads) : RIn w r A c := by
  obtain ⟨h1, h2, h3, h4⟩ := h
  exact ⟨hh, by omega, by omega, by omega, fun x hx => by have := h4 x hx; omega⟩
theorem RowR.rsinS {w : World} {base c : Nat} {A : Option Addr} {L : List RX} (h : RowR w base (.slice A L.length c) L) (hok : ∀ x ∈ L, smallR x.1) : RsIn w A L := fun hp => by
  have hrow := h.row
  rcases hrow.2 with ⟨hv, h0⟩ | ⟨g, cap, cur, hv, hg, hh, h4, h5, h6, h7⟩
  · omega
  · injection hv with e1 _ _
    refine ⟨g, 0, e1, lt_of_there hh, fun j x hx => ?_⟩
    have hj : j < L.length := (List.getElem?_eq_some_iff.1 hx).1
    have k : ∀ i, i < 7 → w.cell? ⟨g, 0 + j * 7 + i, none⟩ = (recsC L)[j * 7 + i]? := fun i hi => by
      subst e1
      have := hrow.cellAt (j * 7 + i) (by omega)
      rw [show 0 + j * 7 + i = j * 7 + i by omega]
      exact this
    have k2 : ∀ i, i < 7 → (recsC L)[j * 7 + i]? = (recC x.1 x.2.1 x.2.2)[i]? := fun i hi => recsC_at hx hi
    have hokx := hok x (List.mem_of_getElem? hx)
    refine ⟨⟨?_, ?_, ?_, ?_, ?_, ?_, ?_⟩, smallR_rin hokx (hin_of_own (h.heads x (List.mem_of_getElem? hx)))⟩
    · exact (k 0 (by decide)).trans ((k2 0 (by decide)).trans rfl)
    · exact (k 1 (by decide)).trans ((k2 1 (by decide)).trans rfl)
    · exact (k 2 (by decide)).trans ((k2 2 (by decide)).trans rfl)
    · exact (k 3 (by decide)).trans ((k2 3 (by decide)).trans rfl)
    · exact (k 4 (by decide)).trans ((k2 4 (by decide)).trans rfl)
    · exact (k 5 (by decide)).trans ((k2 5 (by decide)).trans rfl)
    · exact (k 6 (by decide)).trans ((k2 6 (by decide)).trans rfl)
/-- The cells of a batch's box. -/
def C6 (w : World) (g : Nat) (base span prod epoch seq : Int) (A : Option Addr) (n c : Nat) : Prop :=
  w.cell? ⟨g, 0, none⟩ = some (.int .i64 base) ∧ w.cell? ⟨g, 1, none⟩ = some (.int .i64 span) ∧ w.cell? ⟨g, 2, none⟩ = some (.int .i64 prod) ∧ w.cell? ⟨g, 3, none⟩ = some (.int .i64 epoch) ∧ w.cell? ⟨g, 4, none⟩ = some (.int .i64 seq) ∧ w.cell? ⟨g, 5, none⟩ = some (.slice A n c)
theorem C6.of {w : World} {g : Nat} {base span prod epoch seq : Int} {A : Option Addr} {n c : Nat} (h : Box w g 24 #[.int .i64 base, .int .i64 span, .int .i64 prod, .int .i64 epoch, .int .i64 seq, .slice A n c]) : C6 w g base span prod epoch seq A n c := by
  obtain ⟨y0, y1, y2, y3, y4, y5, _⟩ := box_six h
  exact ⟨y0, y1, y2, y3, y4, y5⟩
/-- Two boxes of one batch. -/
structure Two5 (W : World) (base span prod epoch seq : Int) (L M : List RX) (b1 b2 : Nat) (A B : Option Addr) (c d : Nat) (w : World) : Prop where
  one : Box w b1 24 #[.int .i64 base, .int .i64 span, .int .i64 prod, .int .i64 epoch, .int .i64 seq, .slice A L.length c]
  two : Box w b2 24 #[.int .i64 base, .int .i64 span, .int .i64 prod, .int .i64 epoch, .int .i64 seq, .slice B M.length d]
  r1 : RsIn w A L
  r2 : RsIn w B M
  bel : Below W.heap.size W w
  tab : Tab w
def TwoS5 (W : World) (base span prod epoch seq : Int) (L M : List RX) (b1 b2 : Nat) (A B : Option Addr) (c d : Nat) (w : World) : Prop :=
  C6 w b1 base span prod epoch seq A L.length c ∧ C6 w b2 base span prod epoch seq B M.length d ∧ Two5 W base span prod epoch seq L M b1 b2 A B c d w
section
variable {W w w' : World} {base span prod epoch seq : Int} {L M : List RX} {b1 b2 : Nat} {A B : Option Addr} {c d : Nat}
theorem Two5.later (h : Two5 W base span prod epoch seq L M b1 b2 A B c d w) (hb : Below w.heap.size w w') : Two5 W base span prod epoch seq L M b1 b2 A B c d w' :=
  ⟨h.one.later hb, h.two.later hb, h.r1.below hb, h.r2.below hb, h.bel.trans (hb.mono h.bel.size), h.tab.below hb⟩
theorem TwoS5.of (h : Two5 W base span prod epoch seq L M b1 b2 A B c d w) : TwoS5 W base span prod epoch seq L M b1 b2 A B c d w := ⟨C6.of h.one, C6.of h.two, h⟩
theorem TwoS5.r1 (h : TwoS5 W base span prod epoch seq L M b1 b2 A B c d w) : RsIn w A L := h.2.2.r1
theorem TwoS5.r2 (h : TwoS5 W base span prod epoch seq L M b1 b2 A B c d w) : RsIn w B M := h.2.2.r2
theorem TwoS5.tab (h : TwoS5 W base span prod epoch seq L M b1 b2 A B c d w) : Tab w := h.2.2.tab
theorem TwoS5.bel (h : TwoS5 W base span prod epoch seq L M b1 b2 A B c d w) : Below W.heap.size W w := h.2.2.bel
theorem TwoS5.step (h : TwoS5 W base span prod epoch seq L M b1 b2 A B c d w) (hb : Below w.heap.size w w') : TwoS5 W base span prod epoch seq L M b1 b2 A B c d w' := .of (h.2.2.later hb)
end
set_option maxHeartbeats 8000000 in
set_option maxRecDepth 100000 in
theorem batchEncodes_walk (b : BN) (L : List RX) (A : Option Addr) (c : Nat) (W : World) (hR : RsIn W A L) (hlen : L.length ≤ 140737488351232) (hT : Tab W) :
    Calls Tryd.prog 3 #[.agg (bnC b (.slice A L.length c))] W (Yes W) := by
  obtain ⟨base, span, prod, epoch, seq⟩ := b
  have hb0 : Below W.heap.size W (W.alloc (.cells #[.int .i64 base, .int .i64 span, .int .i64 prod, .int .i64 epoch, .int .i64 seq, .slice A L.length c] 24)) := (Below.refl _ _).alloc (Nat.le_refl _) _
  have hbx := Box.new W 24 #[.int .i64 base, .int .i64 span, .int .i64 prod, .int .i64 epoch, .int .i64 seq, .slice A L.length c]
  have hsm := fun w hx => rsmall_c ⟨base, span, prod, epoch, seq⟩ L A c w hx hlen
  have H0 := Lib.hid (And.intro hb0 (And.intro hbx (And.intro (hR.below hb0) (hT.below hb0))))
  obtain ⟨y0, y1, y2, y3, y4, y5, _, _, _, _, _, _⟩ := box_six hbx
  clear hb0 hbx hR hT
  unfold GotSm bnC at hsm
  unfold bnC
  simp only at hsm
  simp only
  go_enter Tryd.func3, Tryd.ntmps3
  go_wp2_with fail
  (with_reducible refine (hsm _ H0.out.2.2.1).mono ?_)
  rintro en w1 ⟨res, rfl, hres, hb1⟩
  have H1 := Lib.hid (And.intro (H0.out.1.trans (hb1.mono H0.out.1.size)) (And.intro (H0.out.2.1.later hb1) (And.intro (H0.out.2.2.1.below hb1) (H0.out.2.2.2.below hb1))))
  clear hb1 hsm H0 y0 y1 y2 y3 y4 y5
  cases res with
  | false =>
    go_wp2_with fail
    (with_reducible refine (live5_c _ H1.out.2.2.2).mono ?_)
    rintro en w2 ⟨rfl, hb2⟩
    have H2 := Lib.hid (H1.out.1.trans (hb2.mono H1.out.1.size))
    clear hb2
    go_wp2_with fail
    go_ret
    exact ⟨rfl, H2.out⟩
  | true =>
    have HSM := Lib.hid (hres rfl)
    clear hres
    obtain ⟨y0, y1, y2, y3, y4, y5, _, _, _, _, _, _⟩ := box_six H1.out.2.1
    have hcp := rcopy5_c ⟨base, span, prod, epoch, seq⟩ L A c w1 H1.out.2.2.1 (by have := HSM.out.1; omega) (fun x hx => by have := (HSM.out.2 x hx).1; omega)
    unfold CopiedB bnC at hcp
    simp only at hcp
    go_wp2_with fail
    (with_reducible refine hcp.mono ?_)
    rintro en w2 ⟨M, B, d, hM, rfl, hrow, hb2⟩
    clear hcp y0 y1 y2 y3 y4 y5
    have hal := (Below.refl w2.heap.size w2).alloc (Nat.le_refl _) (.cells #[.int .i64 base, .int .i64 span, .int .i64 prod, .int .i64 epoch, .int .i64 seq, .slice B M.length d] 24)
    have hMs : ∀ x ∈ M, smallR x.1 := fun x hx => by
      have h1 : x.1 ∈ L.map (·.1) := by rw [← hM]; exact List.mem_map_of_mem hx
      obtain ⟨y, hy, e⟩ := List.mem_map.1 h1
      rw [← e]
      exact HSM.out.2 y hy
    have hb2' := hb2.trans (hal.mono hb2.size)
    have HML := Lib.hid (show M.length ≤ 140737488351232 by have e : M.length = L.length := by { have := congrArg List.length hM; simpa using this }; omega)
    have T2 := Lib.hid ((⟨H1.out.2.1.later hb2', Box.new w2 24 #[.int .i64 base, .int .i64 span, .int .i64 prod, .int .i64 epoch, .int .i64 seq, .slice B M.length d], H1.out.2.2.1.below hb2', (hrow.rsinS hMs).below hal, H1.out.1.trans (hb2'.mono H1.out.1.size), H1.out.2.2.2.below hb2'⟩ : Two5 W base span prod epoch seq L M W.heap.size w2.heap.size A B c d _))
    have hen := fun w hx ht => pencode_c ⟨base, span, prod, epoch, seq⟩ B d M w hx HML.out ht
    have hre := fun w hx => rencode5_c ⟨base, span, prod, epoch, seq⟩ A c L w hx hlen
    have hck := fun w hx => pcheck5_c ⟨base, span, prod, epoch, seq⟩ B d M w hx HML.out
    have hrk := fun w hx => rcheck5_c ⟨base, span, prod, epoch, seq⟩ A c L w hx hlen
    have hsa := fun w hx hy => rsame5_c ⟨base, span, prod, epoch, seq⟩ M L B A d c w hx hy hM (by have e : M.length = L.length := by { have := congrArg List.length hM; simpa using this }; have := HSM.out.1; omega) (fun x hx => by have := (hMs x hx).1; omega)
    rw [encV_congr _ hM] at hen
    rw [batE_congr _ hM] at hck
    unfold encV bnC at hen hre
    unfold bnC at hck hrk hsa
    simp only at hen hre hck hrk hsa
    generalize encB ⟨base, span, prod, epoch, seq⟩ L = S at *
    generalize batE ⟨base, span, prod, epoch, seq⟩ L = er at *
    clear hb2 hb2' hal hrow hM hMs H1
    have hS := TwoS5.of T2.out
    obtain ⟨z0, z1, z2, z3, z4, z5⟩ := hS.2.1
    go_wp2_with fail
    (with_reducible refine (hen _ T2.out.r2 T2.out.tab).mono ?_)
    rintro en w3 ⟨rfl, hb3⟩
    have T3 := Lib.hid (T2.out.later hb3)
    clear hb3 T2 z0 z1 z2 z3 z4 z5 hS hen
    obtain ⟨y0, y1, y2, y3, y4, y5⟩ := (TwoS5.of T3.out).1
    go_wp2_with fail
    (with_reducible refine (hre _ T3.out.r1).mono ?_)
    rintro en w4 ⟨rfl, hb4⟩
    have T4 := Lib.hid (T3.out.later hb4)
    clear hb4 T3 y0 y1 y2 y3 y4 y5 hre
    have hS := TwoS5.of T4.out
    go_wp2_with fail
    go_region_held3 (fun w => (w.cell? ⟨W.heap.size, 0, none⟩ = some (.int .i64 base) ∧ w.cell? ⟨W.heap.size, 1, none⟩ = some (.int .i64 span) ∧ w.cell? ⟨W.heap.size, 2, none⟩ = some (.int .i64 prod) ∧ w.cell? ⟨W.heap.size, 3, none⟩ = some (.int .i64 epoch) ∧ w.cell? ⟨W.heap.size, 4, none⟩ = some (.int .i64 seq) ∧ w.cell? ⟨W.heap.size, 5, none⟩ = some (.slice A L.length c)) ∧ (w.cell? ⟨w2.heap.size, 0, none⟩ = some (.int .i64 base) ∧ w.cell? ⟨w2.heap.size, 1, none⟩ = some (.int .i64 span) ∧ w.cell? ⟨w2.heap.size, 2, none⟩ = some (.int .i64 prod) ∧ w.cell? ⟨w2.heap.size, 3, none⟩ = some (.int .i64 epoch) ∧ w.cell? ⟨w2.heap.size, 4, none⟩ = some (.int .i64 seq) ∧ w.cell? ⟨w2.heap.size, 5, none⟩ = some (.slice B M.length d)) ∧ Two5 W base span prod epoch seq L M W.heap.size w2.heap.size A B c d w)
      (first | exact TwoS5.step (W := W) (base := base) (span := span) (prod := prod) (epoch := epoch) (seq := seq) (L := L) (M := M) (b1 := W.heap.size) (b2 := w2.heap.size) (A := A) (B := B) (c := c) (d := d) hS ((Below.refl _ _).drew) | exact TwoS5.step (W := W) (base := base) (span := span) (prod := prod) (epoch := epoch) (seq := seq) (L := L) (M := M) (b1 := W.heap.size) (b2 := w2.heap.size) (A := A) (B := B) (c := c) (d := d) (by assumption) (by assumption))
      (first
        | ((with_reducible refine (hck _ ?_).mono ?_); (exact TwoS5.r2 (W := W) (base := base) (span := span) (prod := prod) (epoch := epoch) (seq := seq) (L := L) (M := M) (b1 := W.heap.size) (b2 := w2.heap.size) (A := A) (B := B) (c := c) (d := d) (by assumption)); rintro e w5 ⟨rfl, hb5⟩)
        | ((with_reducible refine (hrk _ ?_).mono ?_); (exact TwoS5.r1 (W := W) (base := base) (span := span) (prod := prod) (epoch := epoch) (seq := seq) (L := L) (M := M) (b1 := W.heap.size) (b2 := w2.heap.size) (A := A) (B := B) (c := c) (d := d) (by assumption)); rintro e w5 ⟨rfl, hb5⟩)
        | ((with_reducible refine (hsa _ ?_ ?_).mono ?_); (exact TwoS5.r2 (W := W) (base := base) (span := span) (prod := prod) (epoch := epoch) (seq := seq) (L := L) (M := M) (b1 := W.heap.size) (b2 := w2.heap.size) (A := A) (B := B) (c := c) (d := d) (by assumption)); (exact TwoS5.r1 (W := W) (base := base) (span := span) (prod := prod) (epoch := epoch) (seq := seq) (L := L) (M := M) (b1 := W.heap.size) (b2 := w2.heap.size) (A := A) (B := B) (c := c) (d := d) (by assumption)); rintro e w5 ⟨rfl, hb5⟩)
        | ((with_reducible refine (live5_c _ ?_).mono ?_); (exact TwoS5.tab (W := W) (base := base) (span := span) (prod := prod) (epoch := epoch) (seq := seq) (L := L) (M := M) (b1 := W.heap.size) (b2 := w2.heap.size) (A := A) (B := B) (c := c) (d := d) (by assumption)); rintro e w5 ⟨rfl, hb5⟩))
    all_goals
      go_wp2
      go_ret
      exact ⟨rfl, TwoS5.bel (W := W) (base := base) (span := span) (prod := prod) (epoch := epoch) (seq := seq) (L := L) (M := M) (b1 := W.heap.size) (b2 := w2.heap.size) (A := A) (B := B) (c := c) (d := d) (by assumption)⟩
end Go.Proofs.YtammmdoabjgjfaaDoor
