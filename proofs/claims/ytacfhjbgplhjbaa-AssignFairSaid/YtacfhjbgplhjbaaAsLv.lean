/- assign: what the document's examples say, by a contract. No condition. -/
import Derived.Test.YtacfhjbgplhjbaaAsRn
import Derived.Deep.RegionHeld3
namespace Go.Proofs.Ytacfhjbgplhjbaa
open Go.RowKit
set_option linter.unusedVariables false
theorem live_facts {base : Nat} {w : World} {A : Option Addr} {c : Nat} {R : List (Int × Value)} {D : Nat → List TX} {s : ByteArray} {x : Int} (h : ShIs base w (.slice A 2 c) R D) (hl : R.length = 2) (hD : D 0 = [(s, 0), (s, x)]) :
    ∃ g p c', A = some ⟨g, 0, none⟩ ∧ w.cell? ⟨g, 1, none⟩ = some (.slice (some ⟨p, 0, none⟩) 2 c') ∧ w.cell? ⟨p, 3, none⟩ = some (.int .i64 x) ∧ g < w.heap.size ∧ p < w.heap.size := by
  obtain ⟨r, hr⟩ : ∃ r, R[0]? = some r := ⟨_, List.getElem?_eq_getElem (by omega)⟩
  obtain ⟨_, g, rfl, hgl, _, _, h1, _⟩ := h.at_ hr
  have hp := h.parts 0 r hr
  obtain ⟨P, c', e⟩ := own_slice hp
  rw [hD] at hp e
  rw [e] at hp h1
  obtain ⟨p, rfl, hpl, _, _, hc⟩ := own_in hp (Nat.zero_lt_succ _)
  exact ⟨g, p, c', rfl, by simpa using h1, hc 3 _ rfl, hgl, hpl⟩
def tB : ByteArray := ⟨#[116]⟩
def lvS (n0 : Nat) : List SX := [(1, [tB], some ⟨n0, 0, none⟩, 1), (2, [tB], some ⟨n0 + 1, 0, none⟩, 1)]
def lvT : List TX := [(tB, 3)]
theorem lv_ok (n0 : Nat) : chkE (lvS n0) lvT = 0 := by
  have h1 : risesB bL [tB] = true := rfl
  have h2 : risesB tL lvT = true := rfl
  have h3 : risesB sL (lvS n0) = true := rfl
  unfold chkE mayS mayT
  rw [h2, h3]
  simp [lvS, lvT, okS, okT, h1]
theorem lv_tak (n0 : Nat) : takersG (lvS n0) tB (lvS n0).length = [0, 1] := by
  have h : hasB [tB] tB = true := by unfold hasB; simp
  rw [show (lvS n0).length = 1 + 1 from rfl, takersG_yes (k := 1) (x := (2, [tB], some ⟨n0 + 1, 0, none⟩, 1)) rfl h, takersG_yes (k := 0) (x := (1, [tB], some ⟨n0, 0, none⟩, 1)) rfl h]
  rfl
theorem lv_range (n0 : Nat) : rangeD (lvS n0) lvT 0 = [(tB, 0), (tB, 1)] := by
  show stepR (lvS n0) (fun _ => []) (tB, 3) 0 = _
  unfold stepR
  rw [lv_tak]
  rfl
theorem lv_round (n0 : Nat) : (roundD (lvS n0) lvT).1 0 = [(tB, 0), (tB, 2)] := by
  show (stepO (lvS n0) (fun _ => [], -1) (tB, 3)).1 0 = _
  unfold stepO
  rw [lv_tak]
  rfl
def lvW (W : World) : World := (((W.alloc (.cells #[.string tB] 9)).alloc (.cells #[.string tB] 9)).alloc (.cells #[.int .i64 1, .slice (some ⟨W.heap.size, 0, none⟩) 1 1, .int .i64 2, .slice (some ⟨W.heap.size + 1, 0, none⟩) 1 1] 44)).alloc (.cells #[.string tB, .int .i64 3] 36)
theorem lvW_below (W : World) : Below W.heap.size W (lvW W) := ((((Below.refl _ _).alloc (Nat.le_refl _) _).alloc (by simp) _).alloc (by simp; omega) _).alloc (by simp; omega) _
theorem lvW_size (W : World) : (lvW W).heap.size = W.heap.size + 4 := by simp [lvW]
theorem lvW_in (W : World) : SbIn (lvW W) (some ⟨W.heap.size + 2, 0, none⟩) (lvS W.heap.size) ∧ TpIn (lvW W) (some ⟨W.heap.size + 3, 0, none⟩) lvT := by
  have b0 : Box (lvW W) W.heap.size 9 #[.string tB] := (((Box.new W _ _).alloc _).alloc _).alloc _
  have b1 : Box (lvW W) (W.heap.size + 1) 9 #[.string tB] := by
    have := Box.new (W.alloc (.cells #[.string tB] 9)) 9 #[.string tB]
    rw [show (W.alloc (.cells #[.string tB] 9)).heap.size = W.heap.size + 1 by simp] at this
    exact (this.alloc _).alloc _
  have b2 : Box (lvW W) (W.heap.size + 2) 44 #[.int .i64 1, .slice (some ⟨W.heap.size, 0, none⟩) 1 1, .int .i64 2, .slice (some ⟨W.heap.size + 1, 0, none⟩) 1 1] := by
    have := Box.new ((W.alloc (.cells #[.string tB] 9)).alloc (.cells #[.string tB] 9)) 44 #[.int .i64 1, .slice (some ⟨W.heap.size, 0, none⟩) 1 1, .int .i64 2, .slice (some ⟨W.heap.size + 1, 0, none⟩) 1 1]
    rw [show ((W.alloc (.cells #[.string tB] 9)).alloc (.cells #[.string tB] 9)).heap.size = W.heap.size + 2 by simp] at this
    exact this.alloc _
  have b3 : Box (lvW W) (W.heap.size + 3) 36 #[.string tB, .int .i64 3] := by
    have := Box.new (((W.alloc (.cells #[.string tB] 9)).alloc (.cells #[.string tB] 9)).alloc (.cells #[.int .i64 1, .slice (some ⟨W.heap.size, 0, none⟩) 1 1, .int .i64 2, .slice (some ⟨W.heap.size + 1, 0, none⟩) 1 1] 44)) 36 #[.string tB, .int .i64 3]
    rw [show (((W.alloc (.cells #[.string tB] 9)).alloc (.cells #[.string tB] 9)).alloc (.cells #[.int .i64 1, .slice (some ⟨W.heap.size, 0, none⟩) 1 1, .int .i64 2, .slice (some ⟨W.heap.size + 1, 0, none⟩) 1 1] 44)).heap.size = W.heap.size + 3 by simp] at this
    exact this
  have st : ∀ b, Box (lvW W) b 9 #[.string tB] → StrIn (lvW W) (some ⟨b, 0, none⟩) [tB] := fun b hb _ => ⟨b, 0, rfl, hb.lt, fun j s hs => by
    match j, hs with
    | 0, hs =>
      have : tB = s := by simpa using hs
      subst this
      exact hb.cell 0⟩
  refine ⟨fun _ => ⟨_, 0, rfl, b2.lt, fun j x hx => ?_⟩, fun _ => ⟨_, 0, rfl, b3.lt, fun j x hx => ?_⟩⟩
  · match j, hx with
    | 0, hx =>
      have : (1, [tB], some ⟨W.heap.size, 0, none⟩, 1) = x := by simpa [lvS] using hx
      subst this
      exact ⟨⟨b2.cell 0, b2.cell 1⟩, st _ b0⟩
    | 1, hx =>
      have : (2, [tB], some ⟨W.heap.size + 1, 0, none⟩, 1) = x := by simpa [lvS] using hx
      subst this
      exact ⟨⟨b2.cell 2, b2.cell 3⟩, st _ b1⟩
  · match j, hx with
    | 0, hx =>
      have : (tB, 3) = x := by simpa [lvT] using hx
      subst this
      exact ⟨b3.cell 0, b3.cell 1⟩
theorem lv_bad : chkE [] [(⟨#[]⟩, 0)] = 1 := rfl
set_option maxHeartbeats 16000000 in
set_option maxRecDepth 100000 in
theorem live14_c (W : World) : Calls Try.prog 8 #[] W (Good W (.bool true)) := by
  obtain ⟨hi1, hi2⟩ := lvW_in W
  have hz : ∀ x ∈ lvS W.heap.size, x.2.1.length ≤ 140737488351232 := fun x hx => by
    simp [lvS] at hx
    rcases hx with rfl | rfl <;> simp
  have hsz : ∀ t ∈ lvT, t.1.size ≤ 281474976710656 := fun t ht => by
    simp [lvT] at ht
    subst ht
    decide
  have c1 := range_c (lvS W.heap.size) (some ⟨W.heap.size + 2, 0, none⟩) 2 lvT (some ⟨W.heap.size + 3, 0, none⟩) 1 (lvW W) hi1 hi2 hz hsz (lv_ok _)
  have c2 := fun w (hb : Below (lvW W).heap.size (lvW W) w) => round_c (lvS W.heap.size) (some ⟨W.heap.size + 2, 0, none⟩) 2 lvT (some ⟨W.heap.size + 3, 0, none⟩) 1 w (hi1.below hb) (hi2.below hb) hz hsz (lv_ok _)
  have HB := Lib.hid (lvW_below W)
  rw [show (lvS W.heap.size).length = 2 from rfl, show lvT.length = 1 from rfl] at c1
  simp only [show (lvS W.heap.size).length = 2 from rfl, show lvT.length = 1 from rfl] at c2
  have c3 := fun (w : World) => check_c [] none 0 [(⟨#[]⟩, 0)] (some ⟨w.heap.size, 0, none⟩) 1 (w.alloc (.cells #[.string ⟨#[]⟩, .int .i64 0] 36)) (SbIn.nil _ _) (fun _ => ⟨_, 0, rfl, (Box.new w 36 #[.string ⟨#[]⟩, .int .i64 0]).lt, fun j x hx => by
    match j, hx with
    | 0, hx =>
      have : (⟨#[]⟩, 0) = x := by simpa using hx
      subst this
      exact ⟨((Box.new w 36 #[.string ⟨#[]⟩, .int .i64 0]).cell 0).trans rfl, ((Box.new w 36 #[.string ⟨#[]⟩, .int .i64 0]).cell 1).trans rfl⟩⟩) (by simp) (by simp) (by simp)
  simp only [lv_bad, List.length_nil, List.length_cons, Nat.zero_add] at c3
  unfold lvW tB at c1
  clear hi1 hi2 hz hsz
  go_enter Try.func8, Try.ntmps8
  go_wp2_with fail
  with_reducible refine c1.mono ?_
  rintro e w1 ⟨A1, d1, R1, rfl, hs1, hm1, hb1⟩
  have hb1' : Below (lvW W).heap.size (lvW W) w1 := hb1
  have HB1 := Lib.hid (HB.out.trans (hb1'.mono HB.out.size))
  have HS1 : Hid (ShIs (lvW W).heap.size w1 (.slice A1 2 d1) R1 (rangeD (lvS W.heap.size) lvT)) := Lib.hid hs1
  have c2' := c2 _ hb1'
  clear c1 c2 hs1 hb1 hb1' HB
  go_wp2_with fail
  with_reducible refine c2'.mono ?_
  rintro e w2 ⟨A2, d2, R2, rfl, hs2, hm2, hb2⟩
  have hl1 : R1.length = 2 := by have := congrArg List.length hm1; simpa [lvS] using this
  have hl2 : R2.length = 2 := by have := congrArg List.length hm2; simpa [lvS] using this
  obtain ⟨g1, p1, k1, rfl, a1, a2, a3, a4⟩ := live_facts (HS1.out.later hb2) hl1 (lv_range _)
  obtain ⟨g2, p2, k2, rfl, q1, q2, q3, q4⟩ := live_facts hs2 hl2 (lv_round _)
  have HB2 := Lib.hid (HB1.out.trans (hb2.mono HB1.out.size))
  have hS := And.intro a1 (And.intro a2 (And.intro q1 (And.intro q2 (And.intro a3 (And.intro a4 (And.intro q3 q4))))))
  clear c2' HS1 HB1 hs2 hm1 hm2 hl1 hl2 hb2 a1 a2 a3 a4 q1 q2 q3 q4
  go_wp2_with fail
  with_reducible refine (c3 _).mono ?_
  rintro e w3 ⟨rfl, hb3⟩
  go_wp2_with fail
  go_ret
  exact ⟨rfl, HB2.out.trans ((((Below.refl w2.heap.size w2).alloc (Nat.le_refl _) _).trans (hb3.mono (by simp))).mono HB2.out.size)⟩
end Go.Proofs.Ytacfhjbgplhjbaa
