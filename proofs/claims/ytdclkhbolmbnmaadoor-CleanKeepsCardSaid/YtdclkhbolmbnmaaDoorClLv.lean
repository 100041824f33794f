/- clean: live is true. No condition. -/
import Derived.Test.YtdclkhbolmbnmaaDoorClLt
namespace Go.Proofs.YtdclkhbolmbnmaaDoor
open Go.RowKit Go.Maps Go.ChangeMaps Go.WideMaps
set_option linter.unusedVariables false
/-- A record that is not too great. -/
def SmR (r : Rec) : Prop := r.heads.length ≤ 140737488351232 ∧ r.key.size ≤ 1152921504606846976 ∧ r.value.size ≤ 1152921504606846976 ∧ ∀ h ∈ r.heads, h.1.size ≤ 1152921504606846976 ∧ h.2.size ≤ 1152921504606846976
theorem own_rsin {w : World} {base n c : Nat} {A : Option Addr} {L : List RX} (h : RowR w base (.slice A n c) L) (hs : ∀ x ∈ L, SmR x.1) : RsIn w A L := fun hp => by
  rcases h.row.2 with ⟨_, h0⟩ | ⟨g, cap, cur, hv, hbg, hg, hr⟩
  · omega
  · injection hv with e1 e2 e3
    subst e1
    refine ⟨g, 0, rfl, lt_of_there hg, fun j x hx => ?_⟩
    have hc := fun i (hi : i < 7) v (hv : (recC x.1 x.2.1 x.2.2)[i]? = some v) => World.ownsRow.cells h.row (g := g) rfl (j * 7 + i) v ((recsC_at hx hi).trans hv)
    have e1 : ∀ i, (⟨g, 0, none⟩ : Addr).add i = ⟨g, i, none⟩ := fun i => by unfold Addr.add; split <;> simp_all
    simp only [e1] at hc
    obtain ⟨s1, s2, s3, s4⟩ := hs x (List.mem_of_getElem? hx)
    rw [Nat.zero_add]
    exact ⟨⟨hc 0 (by omega) _ rfl, hc 1 (by omega) _ rfl, hc 2 (by omega) _ rfl, hc 3 (by omega) _ rfl, hc 4 (by omega) _ rfl, hc 5 (by omega) _ rfl, hc 6 (by omega) _ rfl⟩, ⟨hin_of_own (h.heads x (List.mem_of_getElem? hx)), s1, s2, s3, s4⟩⟩
theorem own_bsin {w : World} {base n c : Nat} {A : Option Addr} {L : List BX} (h : BtsR w base (.slice A n c) L) (hs : ∀ x ∈ L, ∀ y ∈ x.2.1, SmR y.1) : BsIn w A L := fun hp => by
  rcases h.row.2 with ⟨_, h0⟩ | ⟨g, cap, cur, hv, hbg, hg, hr⟩
  · omega
  · injection hv with e1 e2 e3
    subst e1
    refine ⟨g, 0, rfl, lt_of_there hg, fun j x hx => ?_⟩
    have hc := fun i (hi : i < 6) v (hv : (bnC x.1 (.slice x.2.2.1 x.2.1.length x.2.2.2))[i]? = some v) => World.ownsRow.cells h.row (g := g) rfl (j * 6 + i) v ((batsC_at hx hi).trans hv)
    have e1 : ∀ i, (⟨g, 0, none⟩ : Addr).add i = ⟨g, i, none⟩ := fun i => by unfold Addr.add; split <;> simp_all
    simp only [e1] at hc
    have hm := List.mem_of_getElem? hx
    rw [Nat.zero_add]
    exact ⟨⟨hc 0 (by omega) _ rfl, hc 1 (by omega) _ rfl, hc 2 (by omega) _ rfl, hc 3 (by omega) _ rfl, hc 4 (by omega) _ rfl, hc 5 (by omega) _ rfl⟩, own_rsin (h.recs x hm) (hs x hm)⟩
set_option maxHeartbeats 8000000 in
set_option maxRecDepth 100000 in
theorem newnil_c (n : Int) (W : World) : Calls Tryd.prog 17 #[.pointer none, .int .i64 n] W (Good W (.tuple #[.pointer none, .int .i64 1])) := by
  go_enter Tryd.func17, Tryd.ntmps17
  go_wp2_with fail
  go_ret2
  exact ⟨rfl, Below.refl _ _⟩
def lr1 : Rec := ⟨0, 0, false, ⟨#[97]⟩, false, ⟨#[49]⟩, []⟩
def lr2 : Rec := ⟨1, 0, false, ⟨#[98]⟩, false, ⟨#[50]⟩, []⟩
def lr3 : Rec := ⟨2, 0, false, ⟨#[97]⟩, false, ⟨#[51]⟩, []⟩
def lbn : BN := ⟨0, 3, -1, -1, -1⟩
def lx (g : Nat) : BX := (lbn, [(lr1, none, 0), (lr2, none, 0), (lr3, none, 0)], some ⟨g, 0, none⟩, 3)
theorem live_clean : clnL (lastF [[lr1, lr2, lr3]]) (prdF 0 [lbn] []) 3 0 0 [(lbn, [lr1, lr2, lr3])] = [(lbn, [lr2, lr3])] := by rfl
theorem live_last : ofN (lastF [[lr1, lr2, lr3]]) [97] = some ⟨[97], 0, 2⟩ := by rfl
def lvC : Array Value := #[.int .i64 0, .int .i64 0, .bool false, .string ⟨#[97]⟩, .bool false, .string ⟨#[49]⟩, .slice none 0 0, .int .i64 1, .int .i64 0, .bool false, .string ⟨#[98]⟩, .bool false, .string ⟨#[50]⟩, .slice none 0 0, .int .i64 2, .int .i64 0, .bool false, .string ⟨#[97]⟩, .bool false, .string ⟨#[51]⟩, .slice none 0 0]
def lbC (g : Nat) : Array Value := #[.int .i64 0, .int .i64 3, .int .i64 (-1), .int .i64 (-1), .int .i64 (-1), .slice (some ⟨g, 0, none⟩) 3 3]
theorem smr (r : Rec) (h : r.heads = []) (h1 : r.key.size ≤ 10) (h2 : r.value.size ≤ 10) : SmR r := ⟨by rw [h]; decide, by omega, by omega, by rw [h]; intro x hx; cases hx⟩
theorem live_in {w : World} {g g1 : Nat} {t : TypeId} (hB : Box w g 29 (lbC g1)) (hR : Box w g1 t lvC) : BsIn w (some ⟨g, 0, none⟩) [lx g1] := fun _ => by
  refine ⟨g, 0, rfl, hB.lt, fun j x hx => ?_⟩
  match j with
  | 0 =>
    have e : lx g1 = x := by simpa using hx
    subst e
    refine ⟨⟨hB.cell 0, hB.cell 1, hB.cell 2, hB.cell 3, hB.cell 4, hB.cell 5⟩, fun _ => ⟨g1, 0, rfl, hR.lt, fun m y hy => ?_⟩⟩
    match m with
    | 0 =>
      have e : (lr1, none, 0) = y := by simpa [lx] using hy
      subst e
      exact ⟨⟨hR.cell 0, hR.cell 1, hR.cell 2, hR.cell 3, hR.cell 4, hR.cell 5, hR.cell 6⟩, ⟨fun h => absurd h (by decide), by decide, by decide, by decide, by intro x hx; cases hx⟩⟩
    | 1 =>
      have e : (lr2, none, 0) = y := by simpa [lx] using hy
      subst e
      exact ⟨⟨hR.cell 7, hR.cell 8, hR.cell 9, hR.cell 10, hR.cell 11, hR.cell 12, hR.cell 13⟩, ⟨fun h => absurd h (by decide), by decide, by decide, by decide, by intro x hx; cases hx⟩⟩
    | 2 =>
      have e : (lr3, none, 0) = y := by simpa [lx] using hy
      subst e
      exact ⟨⟨hR.cell 14, hR.cell 15, hR.cell 16, hR.cell 17, hR.cell 18, hR.cell 19, hR.cell 20⟩, ⟨fun h => absurd h (by decide), by decide, by decide, by decide, by intro x hx; cases hx⟩⟩
    | m + 3 => simp [lx] at hy
  | j + 1 => simp at hx
theorem lx_all {p : Rec → Prop} (g : Nat) (h1 : p lr1) (h2 : p lr2) (h3 : p lr3) : ∀ x ∈ [lx g], ∀ y ∈ x.2.1, p y.1 := by
  intro x hx y hy
  have : x = lx g := by simpa using hx
  subst this
  simp [lx] at hy
  rcases hy with rfl | rfl | rfl
  · exact h1
  · exact h2
  · exact h3
theorem live_read {w : World} {base c : Nat} {A : Option Addr} {M : List BX} (h : BtsR w base (.slice A M.length c) M) (hM : M.map BX.told = [(lbn, [lr2, lr3])]) :
    ∃ (g g2 c2 o o2 : Nat), A = some ⟨g, o, none⟩ ∧ M.length = 1 ∧ g < w.heap.size ∧ g2 < w.heap.size ∧ w.cell? ⟨g, o + 5, none⟩ = some (.slice (some ⟨g2, o2, none⟩) 2 c2) ∧ w.cell? ⟨g2, o2 + 3, none⟩ = some (.string ⟨#[98]⟩) ∧ w.cell? ⟨g2, o2 + 7, none⟩ = some (.int .i64 2) := by
  match M with
  | [] => cases hM
  | x :: y :: l => simp at hM
  | [x] =>
    have h1 : x.told = (lbn, [lr2, lr3]) := by simpa using hM
    have h2 : x.2.1.map (·.1) = [lr2, lr3] := congrArg Prod.snd h1
    obtain ⟨y1, y2, e, e1, e2⟩ : ∃ y1 y2, x.2.1 = [y1, y2] ∧ y1.1 = lr2 ∧ y2.1 = lr3 := by
      match hx : x.2.1 with
      | [] => rw [hx] at h2; cases h2
      | [y] => rw [hx] at h2; exact absurd (congrArg List.length h2) (by simp)
      | y1 :: y2 :: z :: l => rw [hx] at h2; simp at h2
      | [y1, y2] =>
        rw [hx] at h2
        exact ⟨y1, y2, rfl, (List.cons.inj h2).1, (List.cons.inj (List.cons.inj h2).2).1⟩
    have hb := own_bsin h (fun x' hx' y hy => by
      have : x' = x := by simpa using hx'
      subst this
      rw [e] at hy
      rcases List.mem_cons.1 hy with rfl | hy
      · rw [e1]; exact smr lr2 rfl (by decide) (by decide)
      · have : y = y2 := by simpa using hy
        subst this
        rw [e2]; exact smr lr3 rfl (by decide) (by decide))
    obtain ⟨g, o, rfl, hg, hc⟩ := hb (by simp)
    obtain ⟨⟨_, _, _, _, _, z5⟩, hrs⟩ := hc 0 x rfl
    obtain ⟨g2, o2, e3, hg2, hd⟩ := hrs (by rw [e]; exact Nat.zero_lt_succ _)
    obtain ⟨⟨_, _, _, q3, _, _, _⟩, _⟩ := hd 0 y1 (by rw [e]; rfl)
    obtain ⟨⟨p0, _, _, _, _, _, _⟩, _⟩ := hd 1 y2 (by rw [e]; rfl)
    rw [e3, e] at z5
    rw [e1] at q3
    rw [e2] at p0
    simp only [Nat.zero_mul, Nat.add_zero, Nat.one_mul] at z5 q3 p0
    exact ⟨g, g2, x.2.2.2, o, o2, rfl, rfl, hg, hg2, z5, q3, p0⟩
set_option maxHeartbeats 8000000 in
set_option maxRecDepth 100000 in
theorem live_c (W : World) : Calls Tryd.prog 7 #[] W (Good W (.bool true)) := by
  have ha1 : Below W.heap.size W (W.alloc (.cells lvC 39)) := (Below.refl _ _).alloc (Nat.le_refl _) _
  have ha2 := ha1.alloc ha1.size (.cells (lbC W.heap.size) 29)
  have ha3 := ha2.alloc ha2.size (.cells (lbC W.heap.size) 29)
  have hr3 := ((Box.new W 39 lvC).alloc (.cells (lbC W.heap.size) 29)).alloc (.cells (lbC W.heap.size) 29)
  have hb3 := (Box.new (W.alloc (.cells lvC 39)) 29 (lbC W.heap.size)).alloc (.cells (lbC W.heap.size) 29)
  have hc3 := Box.new ((W.alloc (.cells lvC 39)).alloc (.cells (lbC W.heap.size) 29)) 29 (lbC W.heap.size)
  rw [World.size_alloc] at hb3
  rw [World.size_alloc, World.size_alloc] at hc3
  have cc := clean_c [lx W.heap.size] (some ⟨W.heap.size + 1 + 1, 0, none⟩) 1 3 0 _ (live_in hc3 hr3) (show 1 ≤ 1000 by decide) (by simp [lx]) (lx_all (p := fun r => r.key.size ≤ maxLen) _ (by decide) (by decide) (by decide)) (lx_all (p := fun r => r.heads.length ≤ 1000) _ (by decide) (by decide) (by decide)) (by simp [lx, lbn, Pr.i64B]) (by simp [lx, lbn, Pr.i64B])
  have e1 : clnL (lastF ([lx W.heap.size].map bxR)) (prdF 0 ([lx W.heap.size].map (·.1)) []) 3 0 0 ([lx W.heap.size].map BX.told) = [(lbn, [lr2, lr3])] := live_clean
  rw [e1] at cc
  have HB := Lib.hid (And.intro ha3 (And.intro hr3 hb3))
  clear ha1 ha2 ha3 hr3 hb3 hc3 e1
  unfold lbC lvC at cc
  simp only [List.length_singleton] at cc
  go_enter Tryd.func7, Tryd.ntmps7
  go_wp2_with fail
  (with_reducible refine cc.mono ?_)
  rintro e w1 ⟨M, A, c, hM, rfl, hbt, hb1⟩
  obtain ⟨g, g2, c2, o, o2, rfl, hml, hg, hg2, z5, q3, p0⟩ := live_read hbt hM
  rw [hml]
  have hR1 := HB.out.2.1.later hb1
  have hB1 := HB.out.2.2.later hb1
  have hbW := HB.out.1.trans (hb1.mono HB.out.1.size)
  obtain ⟨v0, v1, v2, v3, v4, v5⟩ := box_six (show Box w1 (W.heap.size + 1) 29 #[.int .i64 0, .int .i64 3, .int .i64 (-1), .int .i64 (-1), .int .i64 (-1), .slice (some ⟨W.heap.size, 0, none⟩) 3 3] from hB1)
  have l1 := hB1.lt
  have ha4 : Below w1.heap.size w1 (w1.alloc (.cells (lbC W.heap.size) 29)) := (Below.refl _ _).alloc (Nat.le_refl _) _
  have lt1 := latest_yes [lx W.heap.size] (some ⟨w1.heap.size, 0, none⟩) 1 ⟨#[97]⟩ _ (live_in (Box.new w1 29 (lbC W.heap.size)) (hR1.alloc _)) (show 1 ≤ 1000 by decide) (by simp [lx]) (lx_all (p := fun r => r.key.size ≤ maxLen) _ (by decide) (by decide) (by decide)) (by decide) (i := 0) (j := 2) (x := lx W.heap.size) (y := (lr3, none, 0)) live_last rfl rfl (by simp [lx, lbn, lr3, Pr.i64B])
  replace lt1 : Calls Tryd.prog 10 #[.slice (some ⟨w1.heap.size, 0, none⟩) 1 1, .string ⟨#[97]⟩] (w1.alloc (.cells #[.int .i64 0, .int .i64 3, .int .i64 (-1), .int .i64 (-1), .int .i64 (-1), .slice (some ⟨W.heap.size, 0, none⟩) 3 3] 29)) (Good (w1.alloc (.cells (lbC W.heap.size) 29)) (.tuple #[.int .i64 2, .bool true])) := lt1
  have HA4 := Lib.hid (And.intro ha4 hbW)
  have HG := Lib.hid (And.intro hg hg2)
  have HZ := Lib.hid (And.intro z5 (And.intro q3 p0))
  clear ha4 hbW hR1 hB1 hb1 hbt hM cc hml z5 q3 p0
  go_wp2_with fail
  (with_reducible refine lt1.mono ?_)
  rintro e w2 ⟨rfl, hb2⟩
  have hn := newnil_c 0 w2
  clear lt1
  go_wp2_with fail
  (with_reducible refine hn.mono ?_)
  rintro e w3 ⟨rfl, hb3⟩
  have hb4 : Below w1.heap.size w1 w3 := (HA4.out.1.trans (hb2.mono HA4.out.1.size)).trans (hb3.mono (Nat.le_trans HA4.out.1.size hb2.size))
  have z5 : w3.cell? ⟨g, o + 5, none⟩ = some (.slice (some ⟨g2, o2, none⟩) 2 c2) := (hb4.cell (p := ⟨g, o + 5, none⟩) HG.out.1).trans HZ.out.1
  have q3 : w3.cell? ⟨g2, o2 + 3, none⟩ = some (.string ⟨#[98]⟩) := (hb4.cell (p := ⟨g2, o2 + 3, none⟩) HG.out.2).trans HZ.out.2.1
  have p0 : w3.cell? ⟨g2, o2 + 7, none⟩ = some (.int .i64 2) := (hb4.cell (p := ⟨g2, o2 + 7, none⟩) HG.out.2).trans HZ.out.2.2
  have hl1 : g < w3.heap.size := Nat.lt_of_lt_of_le HG.out.1 hb4.size
  have hl2 : g2 < w3.heap.size := Nat.lt_of_lt_of_le HG.out.2 hb4.size
  have HF := Lib.hid (HA4.out.2.trans (hb4.mono HA4.out.2.size))
  clear hb4 hb3 hb2 hn hg hg2
  go_wp2_with fail
  go_ret
  exact ⟨rfl, HF.out⟩
end Go.Proofs.YtdclkhbolmbnmaaDoor
