/- clean: the document's Small of a batch: what it says when it says yes. No condition. -/
import Derived.Test.YtdclkhbolmbnmaaDoorClA
import Derived.BigQuiet
import Derived.Deep.QuietTactic
import Derived.Deep.RegionHeld3
namespace Go.Proofs.YtdclkhbolmbnmaaDoor
open Go.RowKit
set_option linter.unusedVariables false
def smallR (r : Rec) : Prop := r.heads.length ≤ 12 ∧ r.key.size ≤ 3000 ∧ r.value.size ≤ 3000 ∧ ∀ h ∈ r.heads, h.1.size ≤ 3000 ∧ h.2.size ≤ 3000
def SmallL (L : List RX) : Prop := L.length ≤ 50 ∧ ∀ x ∈ L, smallR x.1
def GotSm (W : World) (L : List RX) (en : Ending) (w' : World) : Prop := ∃ res, en = .returned (.bool res) ∧ (res = true → SmallL L) ∧ Below W.heap.size W w'
structure SmlS (W : World) (cs : Array Value) (L : List RX) (k : Nat) (w : World) : Prop where
  box : Box w W.heap.size 29 cs
  bel : Below W.heap.size W w
  all : ∀ x ∈ L.take k, smallR x.1
theorem SmlS.later {W w w' : World} {cs : Array Value} {L : List RX} {k : Nat} (h : SmlS W cs L k w) (hb : Below w.heap.size w w') : SmlS W cs L k w' := ⟨h.box.later hb, h.bel.trans (hb.mono h.bel.size), h.all⟩
theorem SmlS.next {W w w' : World} {cs : Array Value} {L : List RX} {k : Nat} {x : RX} (h : SmlS W cs L k w) (hb : Below w.heap.size w w') (hx : L[k]? = some x) (hs : smallR x.1) : SmlS W cs L (k + 1) w' := by
  refine ⟨(h.later hb).box, (h.later hb).bel, fun y hy => ?_⟩
  obtain ⟨hk, he⟩ := List.getElem?_eq_some_iff.1 hx
  rw [List.take_succ_eq_append_getElem hk, List.mem_append] at hy
  rcases hy with hy | hy
  · exact h.all y hy
  · simp at hy
    subst hy
    rw [he]; exact hs
/-- The inner loop's state. -/
structure SmhS (w0 : World) (g : Nat) (cs : Array Value) (A : Option Addr) (hs : List Hd) (k : Nat) (w : World) : Prop where
  box : Box w g 39 cs
  bel : Below w0.heap.size w0 w
  rin : HIn w A hs
  all : ∀ h ∈ hs.take k, h.1.size ≤ 3000 ∧ h.2.size ≤ 3000
theorem SmhS.later {w0 w w' : World} {g : Nat} {cs : Array Value} {A : Option Addr} {hs : List Hd} {k : Nat} (h : SmhS w0 g cs A hs k w) (hb : Below w.heap.size w w') : SmhS w0 g cs A hs k w' := ⟨h.box.later hb, h.bel.trans (hb.mono h.bel.size), h.rin.below hb, h.all⟩
theorem SmhS.next {w0 w : World} {g : Nat} {cs : Array Value} {A : Option Addr} {hs : List Hd} {k : Nat} (h : SmhS w0 g cs A hs k w) (hk : k < hs.length) (h1 : hs[k].1.size ≤ 3000) (h2 : hs[k].2.size ≤ 3000) : SmhS w0 g cs A hs (k + 1) w := by
  refine ⟨h.box, h.bel, h.rin, fun y hy => ?_⟩
  rw [List.take_succ_eq_append_getElem hk, List.mem_append] at hy
  rcases hy with hy | hy
  · exact h.all y hy
  · simp at hy
    subst hy
    exact ⟨h1, h2⟩
set_option maxHeartbeats 16000000 in
set_option maxRecDepth 100000 in
theorem rsmall_c (b : BN) (L : List RX) (A : Option Addr) (c : Nat) (W : World) (hA : RsIn W A L) (hlen : L.length ≤ 140737488351232) :
    Calls Tryd.prog 16 #[.agg (bnC b (.slice A L.length c))] W (GotSm W L) := by
  obtain ⟨base, span, prod, epoch, seq⟩ := b
  unfold bnC
  simp only
  obtain ⟨W1, hW1⟩ : ∃ w, W.alloc (.cells #[.int .i64 base, .int .i64 span, .int .i64 prod, .int .i64 epoch, .int .i64 seq, .slice A L.length c] 29) = w := ⟨_, rfl⟩
  have hS0 : SmlS W #[.int .i64 base, .int .i64 span, .int .i64 prod, .int .i64 epoch, .int .i64 seq, .slice A L.length c] L 0 W1 := by
    rw [← hW1]
    exact ⟨Box.new W _ _, (Below.refl _ W).alloc (Nat.le_refl _) _, fun x hx => by simp at hx⟩
  have y5 := (hS0.box.cell 5).trans (show _ = some (Value.slice A L.length c) from rfl)
  have HS0 := Lib.hid hS0
  have HA := Lib.hid hA
  clear hS0 hA
  by_cases h50 : 50 < L.length
  · have h50' : (50 : Int) < (L.length : Int) := by omega
    go_enter Tryd.func16, Tryd.ntmps16
    go_wp2_with fail
    go_ret
    exact ⟨false, rfl, (fun e => by cases e), HS0.out.bel⟩
  have h50' : ¬ (50 : Int) < (L.length : Int) := by omega
  go_enter Tryd.func16, Tryd.ntmps16
  go_wp2_with fail
  clear hW1 y5 h50'
  go_loopw [3, 4] (fun n i wr => ∃ (k m : Nat), i = .int .i64 k ∧ k ≤ L.length ∧ n = .int .i64 m ∧ m ≤ 3000 ∧ SmlS W #[.int .i64 base, .int .i64 span, .int .i64 prod, .int .i64 epoch, .int .i64 seq, .slice A L.length c] L k wr) (fun _ i _ => L.length - (intOf i).toNat)
  case atStart => exact ⟨0, 0, rfl, Nat.zero_le _, rfl, by omega, HS0.out⟩
  case round =>
    obtain ⟨k, m, rfl, hkl, rfl, hm, hS⟩ := hrel
    clear HS0
    have y5 := (hS.box.cell 5).trans (show _ = some (Value.slice A L.length c) from rfl)
    have HS := Lib.hid hS
    by_cases hk : k < L.length
    · obtain ⟨x, hx⟩ : ∃ x, L[k]? = some x := ⟨_, List.getElem?_eq_getElem hk⟩
      obtain ⟨bb, off, rfl, hbl, hca⟩ := (HA.out.below hS.bel) (by omega)
      obtain ⟨⟨x0, x1, x2, x3, x4, x5, x6⟩, hR⟩ := hca k x hx
      have HN := Lib.hid (fun w' hb (hs : smallR x.1) => hS.next (w' := w') hb hx hs)
      clear hca hx hS hbl
      obtain ⟨⟨place, time, bare, key, gone, value, heads⟩, A1, c1⟩ := x
      have hki : (k : Int) < (L.length : Int) := by omega
      have hhl : heads.length ≤ 140737488351232 := hR.len
      have hkz : key.size ≤ 1152921504606846976 := hR.key
      have hvz : value.size ≤ 1152921504606846976 := hR.value
      have hez := hR.each
      simp only at x0 x1 x2 x3 x4 x5 x6 hez
      obtain ⟨w0, hw0⟩ : ∃ w, wr.alloc (.cells #[.int .i64 place, .int .i64 time, .bool bare, .string key, .bool gone, .string value, .slice A1 heads.length c1] 39) = w := ⟨_, rfl⟩
      have hb0 : Below wr.heap.size wr w0 := by rw [← hw0]; exact (Below.refl _ _).alloc (Nat.le_refl _) _
      have hH : SmhS w0 wr.heap.size #[.int .i64 place, .int .i64 time, .bool bare, .string key, .bool gone, .string value, .slice A1 heads.length c1] A1 heads 0 w0 := by
        refine ⟨by rw [← hw0]; exact Box.new _ _ _, Below.refl _ _, hR.heads.below hb0, fun h hh => by simp at hh⟩
      have r3 := (hH.box.cell 3).trans (show _ = some (Value.string key) from rfl)
      have r5 := (hH.box.cell 5).trans (show _ = some (Value.string value) from rfl)
      have r6 := (hH.box.cell 6).trans (show _ = some (Value.slice A1 heads.length c1) from rfl)
      have HH := Lib.hid (And.intro hb0 hH)
      have HF := Lib.hid (HS.out.later hb0).bel
      clear hb0 hH hR
      by_cases h12 : 12 < heads.length
      · have h12' : (12 : Int) < (heads.length : Int) := by omega
        go_wp2_with fail
        go_ret
        exact ⟨false, rfl, (fun e => by cases e), HF.out⟩
      have h12' : ¬ (12 : Int) < (heads.length : Int) := by omega
      by_cases h13 : 3000 < key.size
      · have h13' : (3000 : Int) < (key.size : Int) := by omega
        go_wp2_with fail
        go_ret
        exact ⟨false, rfl, (fun e => by cases e), HF.out⟩
      have h13' : ¬ (3000 : Int) < (key.size : Int) := by omega
      by_cases h14 : 3000 < value.size
      · have h14' : (3000 : Int) < (value.size : Int) := by omega
        go_wp2_with fail
        go_ret
        exact ⟨false, rfl, (fun e => by cases e), HF.out⟩
      have h14' : ¬ (3000 : Int) < (value.size : Int) := by omega
      go_wp2_with fail
      clear hw0 r3 r5 h12' h13' h14'
      go_loopw [3, 6] (fun n j w => ∃ (j2 n2 : Nat), j = .int .i64 j2 ∧ j2 ≤ heads.length ∧ n = .int .i64 n2 ∧ n2 ≤ 9000 ∧ SmhS w0 wr.heap.size #[.int .i64 place, .int .i64 time, .bool bare, .string key, .bool gone, .string value, .slice A1 heads.length c1] A1 heads j2 w) (fun _ j _ => heads.length - (intOf j).toNat)
      case atStart => exact ⟨0, m + key.size + value.size, rfl, Nat.zero_le _, by simp, by omega, HH.out.2⟩
      case round =>
        obtain ⟨j2, n2, rfl, hj2, rfl, hn2, hI⟩ := hrel
        have r6' := (hI.box.cell 6).trans (show _ = some (Value.slice A1 heads.length c1) from rfl)
        clear r6
        by_cases hj : j2 < heads.length
        · by_cases hn : n2 ≤ 3000
          · obtain ⟨hb2, ho2, rfl, hl2, q1, q2⟩ := hI.rin.at_ hj
            have ez := hez _ (List.getElem_mem hj)
            have HIN := Lib.hid hI
            have HNX := Lib.hid (hI.next hj)
            have HB2 := Lib.hid (HF.out.trans (hI.bel.mono HF.out.size))
            clear hI hez
            have hji : (j2 : Int) < (heads.length : Int) := by omega
            have hni : (n2 : Int) ≤ 3000 := by omega
            generalize heads[j2].1 = z1 at *
            generalize heads[j2].2 = z2 at *
            by_cases h15 : 3000 < z1.size
            · have h15' : (3000 : Int) < (z1.size : Int) := by omega
              go_wp2_with fail
              go_ret
              exact ⟨false, rfl, (fun e => by cases e), HB2.out⟩
            have h15' : ¬ (3000 : Int) < (z1.size : Int) := by omega
            by_cases h16 : 3000 < z2.size
            · have h16' : (3000 : Int) < (z2.size : Int) := by omega
              go_wp2_with fail
              go_ret
              exact ⟨false, rfl, (fun e => by cases e), HB2.out⟩
            have h16' : ¬ (3000 : Int) < (z2.size : Int) := by omega
            go_wp2_with fail
            go_quiet (fail)
            go_wp2_with fail
            go_roundw
            case rel => exact ⟨j2 + 1, n2 + z1.size + z2.size, by go_num, hj, by simp, by omega, (HNX.out (by omega) (by omega)).later ⟨rfl, rfl, rfl, Nat.le_refl _, fun _ _ => rfl⟩⟩
            case measure => simp [intOf]; omega
          · have hn' : ¬ (n2 : Int) ≤ 3000 := by omega
            have hji : (j2 : Int) < (heads.length : Int) := by omega
            have HB2 := Lib.hid (HF.out.trans (hI.bel.mono HF.out.size))
            have hn3 : (3000 : Int) < (n2 : Int) := by omega
            clear hI hez
            go_wp2_with fail
            go_ret
            exact ⟨false, rfl, (fun e => by cases e), HB2.out⟩
        · have hji : ¬ (j2 : Int) < (heads.length : Int) := by omega
          have hsr : smallR ⟨place, time, bare, key, gone, value, heads⟩ := ⟨by show heads.length ≤ 12; omega, by show key.size ≤ 3000; omega, by show value.size ≤ 3000; omega, fun h hh => hI.all h (by rw [List.take_of_length_le (by omega)]; exact hh)⟩
          have HNN := Lib.hid (HN.out _ (HH.out.1.trans (hI.bel.mono HH.out.1.size)) hsr)
          have HB2 := Lib.hid (HF.out.trans (hI.bel.mono HF.out.size))
          clear hI hez hsr
          by_cases hn : n2 ≤ 3000
          · have hni : ¬ (3000 : Int) < (n2 : Int) := by omega
            go_wp2_with fail
            go_roundw
            case rel => exact ⟨k + 1, n2, by go_num, hk, rfl, hn, HNN.out⟩
            case measure => simp [intOf]; omega
          · have hni : (3000 : Int) < (n2 : Int) := by omega
            go_wp2_with fail
            go_ret
            exact ⟨false, rfl, (fun e => by cases e), HB2.out⟩
    · have hF : SmallL L := ⟨by omega, fun x hx => hS.all x (by rw [List.take_of_length_le (by omega)]; exact hx)⟩
      have HF := Lib.hid (And.intro hF hS.bel)
      clear hS hF
      go_wp2_with fail
      go_ret
      exact ⟨true, rfl, (fun _ => HF.out.1), HF.out.2⟩
end Go.Proofs.YtdclkhbolmbnmaaDoor
