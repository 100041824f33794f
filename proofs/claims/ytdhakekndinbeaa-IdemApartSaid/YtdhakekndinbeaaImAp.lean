/- idem: the law IdemApart walks to true. No condition. -/
import Derived.Test.YtdhakekndinbeaaImFn
namespace Go.Proofs.Ytdhakekndinbeaa
open Go.RowKit
set_option linter.unusedVariables false
/-- Between two rounds. -/
structure ApI (W : World) (p q : Nat) (id ep : Int) (k : Nat) (G : List GH) (w : World) : Prop where
  po : PO W p G w
  box : Box w q 31 #[.int .i64 9, .int .i64 2, .int .i64 id, .int .i64 ep, .int .i64 0, .slice none 0 0]
  one : findG G id = some (id, ep, [(0, 9, 2)])
  len : G.length ≤ k
theorem ApI.later {W w w' : World} {p q k : Nat} {id ep : Int} {G : List GH} (h : ApI W p q id ep k G w) (hb : Below w.heap.size w w') : ApI W p q id ep k G w' := ⟨h.po.later hb, h.box.later hb, h.one, h.len⟩
theorem ApI.cells {W w : World} {p q k : Nat} {id ep : Int} {G : List GH} (h : ApI W p q id ep k G w) : w.cell? ⟨q, 0, none⟩ = some (.int .i64 9) ∧ w.cell? ⟨q, 1, none⟩ = some (.int .i64 2) ∧ w.cell? ⟨q, 2, none⟩ = some (.int .i64 id) ∧ w.cell? ⟨q, 3, none⟩ = some (.int .i64 ep) ∧ w.cell? ⟨q, 4, none⟩ = some (.int .i64 0) ∧ w.cell? ⟨q, 5, none⟩ = some (.slice none 0 0) :=
  ⟨h.box.cell 0, h.box.cell 1, h.box.cell 2, h.box.cell 3, h.box.cell 4, h.box.cell 5⟩
set_option maxHeartbeats 16000000 in
set_option maxRecDepth 100000 in
theorem idemApart_walk (L : List BX) (A : Option Addr) (c : Nat) (id ep : Int) (W : World) (hL : BxsIn W A L) (hlen : L.length ≤ 140737488351232) (w1 : (Lit.int .i64 id).wf = true) (w2 : (Lit.int .i64 ep).wf = true) :
    Calls Try.prog 8 #[.slice A L.length c, .int .i64 id, .int .i64 ep] W (Yes W) := by
  have cl := fun w => live_c w
  unfold Yes at cl
  by_cases hg : L.length ≤ 80 ∧ (0 ≤ id ∧ id ≤ 1073741824) ∧ 0 ≤ ep ∧ ep ≤ 32767
  case neg =>
    have hbad : 80 < L.length ∨ (L.length ≤ 80 ∧ id < 0) ∨ (L.length ≤ 80 ∧ 0 ≤ id ∧ 1073741824 < id) ∨ (L.length ≤ 80 ∧ 0 ≤ id ∧ id ≤ 1073741824 ∧ ep < 0) ∨ (L.length ≤ 80 ∧ 0 ≤ id ∧ id ≤ 1073741824 ∧ 0 ≤ ep ∧ 32767 < ep) := by omega
    clear hg hL w1 w2
    rcases hbad with h | ⟨h1, h2⟩ | ⟨h1, h2, h3⟩ | ⟨h1, h2, h3, h4⟩ | ⟨h1, h2, h3, h4, h5⟩
    all_goals
      go_enter Try.func8, Try.ntmps8
      go_wp2_with fail
      with_reducible refine (cl _).mono ?_
      rintro en w1 ⟨rfl, hb⟩
      have HB := Lib.hid hb
      clear hb
      go_wp2_with fail
      go_ret
      exact ⟨rfl, HB.out⟩
  case pos =>
    obtain ⟨g1, ⟨g2, g3⟩, g4, g5⟩ := hg
    have HL := Lib.hid hL
    have cn := new_c W
    have HP := Lib.hid (PO.new (W := W) (Below.refl _ W))
    have hbn := Lib.hid (bnB_mk (b := ⟨9, 2, id, ep, 0⟩) ⟨g2, g3⟩ (by show 0 ≤ ep ∧ ep ≤ 32768; omega) (by show (0 : Int) ≤ 0 ∧ (0 : Int) ≤ 1073741824; omega) (by show (1 : Int) ≤ 2 ∧ (2 : Int) ≤ 50; omega) (by show (0 : Int) ≤ 9 ∧ (9 : Int) ≤ 1099511627776; omega))
    have hbn0 := Lib.hid (bnB_mk (b := ⟨0, 2, id, ep, 0⟩) ⟨g2, g3⟩ (by show 0 ≤ ep ∧ ep ≤ 32768; omega) (by show (0 : Int) ≤ 0 ∧ (0 : Int) ≤ 1073741824; omega) (by show (1 : Int) ≤ 2 ∧ (2 : Int) ≤ 50; omega) (by show (0 : Int) ≤ 0 ∧ (0 : Int) ≤ 1099511627776; omega))
    have hcn := Lib.hid (bnB_mk (b := ⟨9, 2, id, ep + 1, 0⟩) ⟨g2, g3⟩ (by show 0 ≤ ep + 1 ∧ ep + 1 ≤ 32768; omega) (by show (0 : Int) ≤ 0 ∧ (0 : Int) ≤ 1073741824; omega) (by show (1 : Int) ≤ 2 ∧ (2 : Int) ≤ 50; omega) (by show (0 : Int) ≤ 9 ∧ (9 : Int) ≤ 1099511627776; omega))
    have hcn0 := Lib.hid (bnB_mk (b := ⟨0, 2, id, ep + 1, 0⟩) ⟨g2, g3⟩ (by show 0 ≤ ep + 1 ∧ ep + 1 ≤ 32768; omega) (by show (0 : Int) ≤ 0 ∧ (0 : Int) ≤ 1073741824; omega) (by show (1 : Int) ≤ 2 ∧ (2 : Int) ≤ 50; omega) (by show (0 : Int) ≤ 0 ∧ (0 : Int) ≤ 1099511627776; omega))
    have hid1 : Hid (id ≠ -1 ∧ i64B id) := Lib.hid ⟨by omega, by unfold i64B; omega⟩
    -- the one that is noted first is told
    have HC1 : Hid (∀ G, findG G id = some (id, ep, [(0, 9, 2)]) → chkG G ⟨9, 2, id, ep, 0⟩ = (9, true, 0) ∧ epoG G id = ep ∧ chkG G ⟨9, 2, id, ep + 1, 0⟩ = (0, false, 0) ∧ findG (noteG G ⟨9, 2, id, ep + 1, 0⟩) id = some (id, ep + 1, [(0, 9, 2)])) := Lib.hid (fun G h => by
      refine ⟨?_, ?_, ?_, ?_⟩
      · rw [chk_of hid1.out.1 hbn0.out]
        show chkGO (findG G id) _ = _
        rw [h]
        unfold chkGO
        simp only
        rw [if_neg (by omega), if_pos trivial]
        rfl
      · unfold epoG; rw [h]
      · rw [chk_of hid1.out.1 hcn0.out]
        show chkGO (findG G id) _ = _
        rw [h]
        unfold chkGO
        simp only
        rw [if_neg (by omega), if_neg (by omega), if_pos trivial]
      · exact note_later (b := ⟨9, 2, id, ep + 1, 0⟩) hcn.out h (by show ep < ep + 1; omega))
    have HC2 : Hid (∀ G, findG G id = some (id, ep + 1, [(0, 9, 2)]) → chkG G ⟨9, 2, id, ep, 0⟩ = (0, false, 8) ∧ epoG G id = ep + 1) := Lib.hid (fun G h => by
      refine ⟨?_, ?_⟩
      · rw [chk_of hid1.out.1 hbn0.out]
        show chkGO (findG G id) _ = _
        rw [h]
        unfold chkGO
        simp only
        rw [if_pos (by omega)]
      · unfold epoG; rw [h])
    unfold dp at cn
    clear hL w1 w2 hlen
    go_enter Try.func8, Try.ntmps8
    go_wp2_with fail
    with_reducible refine cn.mono ?_
    rintro en w0 ⟨rfl, rfl⟩
    clear cn
    generalize (W.alloc (.cells #[.map none] 58)) = w0 at *
    obtain ⟨p, hp⟩ : ∃ p, W.heap.size = p := ⟨_, rfl⟩
    rw [hp]
    have HP2 : Hid (PO W p [] w0) := Lib.hid (by rw [← hp]; exact HP.out)
    clear hp HP
    have HB0 : Hid (Below w0.heap.size w0 (w0.alloc (.cells #[.int .i64 9, .int .i64 2, .int .i64 id, .int .i64 ep, .int .i64 0, .slice none 0 0] 31))) := Lib.hid ((Below.refl _ _).alloc (Nat.le_refl _) _)
    have HBX := Lib.hid (Box.new w0 31 #[.int .i64 9, .int .i64 2, .int .i64 id, .int .i64 ep, .int .i64 0, .slice none 0 0])
    go_wp2_with fail
    with_reducible refine (note_v (HP2.out.later HB0.out) ⟨9, 2, id, ep, 0⟩ none 0 0 (by decide) rfl).mono ?_
    rintro en w1 ⟨rfl, h1, k1⟩
    have H1 : Hid (ApI W p w0.heap.size id ep 1 (noteG [] ⟨9, 2, id, ep, 0⟩) w1) := Lib.hid ⟨h1, k1.box HBX.out (by decide) (by decide), note_new (b := ⟨9, 2, id, ep, 0⟩) hbn.out rfl, note_len [] _⟩
    clear h1 k1 HB0 HBX HP2
    generalize w0.heap.size = q at *
    go_wp2_with fail
    go_loopw [9] (fun i wr => ∃ (k : Nat) (G : List GH), i = .int .i64 k ∧ k ≤ L.length ∧ ApI W p q id ep (k + 1) G wr) (fun i _ => L.length - (intOf i).toNat)
    case atStart => exact ⟨0, _, rfl, Nat.zero_le _, H1.out⟩
    case round =>
      obtain ⟨k, G, rfl, hk, hI⟩ := hrel
      have HI := Lib.hid hI
      clear hI H1
      by_cases hkl : k < L.length
      · obtain ⟨x, hx⟩ : ∃ x, L[k]? = some x := ⟨_, List.getElem?_eq_getElem hkl⟩
        obtain ⟨b, off, rfl, hbl, z0, z1, z2, z3, z4, z5⟩ := HL.out.at_ HI.out.po.bel hx
        have hgl : G.length ≤ 100000 := by have := HI.out.len; omega
        have hK0 : (0 : Int) ≤ (k : Int) := by omega
        have hK1 : (k : Int) < (L.length : Int) := by omega
        by_cases hne : x.1.prod = id
        · have hz : (x.1.prod == id) = true := by rw [hne]; exact beq_self_eq_true id
          obtain ⟨y0, y1, y2, y3, y4, y5⟩ := HI.out.cells
          have HI2 : Hid (ApI W p q id ep (k + 1 + 1) G wr) := Lib.hid ⟨HI.out.po, HI.out.box, HI.out.one, by have := HI.out.len; omega⟩
          clear hx z0 z1 z3 z4 z5 HI
          go_wp2_with fail
          with_reducible refine (check_v HI2.out.po ⟨9, 2, id, ep, 0⟩ none 0 0 (HC1.out _ HI2.out.one).1).mono ?_
          rintro en w2 ⟨rfl, _, hb2⟩
          have HI3 := Lib.hid (HI2.out.later hb2)
          clear hb2 HI2 y0 y1 y2 y3 y4 y5
          go_wp2_with fail
          with_reducible refine (epoch_v HI3.out.po id hid1.out.2 (HC1.out _ HI3.out.one).2.1).mono ?_
          rintro en w3 ⟨rfl, _, hb3⟩
          have HI4 := Lib.hid (HI3.out.later hb3)
          clear hb3 HI3
          go_wp2_with fail
          go_roundw
          case rel => exact ⟨k + 1, G, by go_num, hkl, HI4.out⟩
          case measure => simp [intOf]; omega
        · have hz : (x.1.prod == id) = false := by simp [hne]
          have HNE := Lib.hid hne
          have HNO := Lib.hid (note_other G x.1 id hne)
          have HNL := Lib.hid (note_len G x.1)
          have cnt := note_v HI.out.po x.1 x.2.1 x.2.2.1 x.2.2.2 hgl (rfl : noteG G x.1 = noteG G x.1)
          clear hx hne
          go_wp2_with fail
          with_reducible refine cnt.mono ?_
          rintro en w1 ⟨rfl, h1, k1⟩
          have HI2 : Hid (ApI W p q id ep (k + 1 + 1) (noteG G x.1) w1) := Lib.hid ⟨h1, k1.box HI.out.box (by decide) (by decide), HNO.out.trans HI.out.one, by have := HI.out.len; have := HNL.out; omega⟩
          clear h1 k1 cnt HI z0 z1 z2 z3 z4 z5
          obtain ⟨y0, y1, y2, y3, y4, y5⟩ := HI2.out.cells
          go_wp2_with fail
          with_reducible refine (check_v HI2.out.po ⟨9, 2, id, ep, 0⟩ none 0 0 (HC1.out _ HI2.out.one).1).mono ?_
          rintro en w2 ⟨rfl, _, hb2⟩
          have HI3 := Lib.hid (HI2.out.later hb2)
          clear hb2 HI2 y0 y1 y2 y3 y4 y5
          go_wp2_with fail
          with_reducible refine (epoch_v HI3.out.po id hid1.out.2 (HC1.out _ HI3.out.one).2.1).mono ?_
          rintro en w3 ⟨rfl, _, hb3⟩
          have HI4 := Lib.hid (HI3.out.later hb3)
          clear hb3 HI3
          go_wp2_with fail
          go_roundw
          case rel => exact ⟨k + 1, noteG G x.1, by go_num, hkl, HI4.out⟩
          case measure => simp [intOf]; omega
      · obtain ⟨y0, y1, y2, y3, y4, y5⟩ := HI.out.cells
        have hgl : G.length ≤ 100000 := by have := HI.out.len; omega
        have HCB : Hid (Below wr.heap.size wr (wr.alloc (.cells #[.int .i64 9, .int .i64 2, .int .i64 id, .int .i64 ep, .int .i64 0, .slice none 0 0] 31))) := Lib.hid ((Below.refl _ _).alloc (Nat.le_refl _) _)
        have hke : ¬ (k : Int) < (L.length : Int) := by omega
        clear hkl
        have HBY := Lib.hid (Box.new wr 31 #[.int .i64 9, .int .i64 2, .int .i64 id, .int .i64 (ep + 1), .int .i64 0, .slice none 0 0])
        have HCC : Hid (Below wr.heap.size wr (wr.alloc (.cells #[.int .i64 9, .int .i64 2, .int .i64 id, .int .i64 (ep + 1), .int .i64 0, .slice none 0 0] 31))) := Lib.hid ((Below.refl _ _).alloc (Nat.le_refl _) _)
        have HI2 := Lib.hid (HI.out.later HCC.out)
        have HF := HC1.out _ HI.out.one
        have HF1 := Lib.hid HF
        clear HCB HF
        go_wp2_with fail
        with_reducible refine (check_v HI2.out.po ⟨9, 2, id, ep + 1, 0⟩ none 0 0 HF1.out.2.2.1).mono ?_
        rintro en w2 ⟨rfl, _, hb2⟩
        have HI3 := Lib.hid (HI2.out.later hb2)
        have HBY3 := Lib.hid (HBY.out.later hb2)
        clear hb2 HI2 y0 y1 y2 y3 y4 y5 HBY
        obtain ⟨y0, y1, y2, y3, y4, y5⟩ := (show _ ∧ _ ∧ _ ∧ _ ∧ _ ∧ _ from ⟨HBY3.out.cell 0, HBY3.out.cell 1, HBY3.out.cell 2, HBY3.out.cell 3, HBY3.out.cell 4, HBY3.out.cell 5⟩)
        go_wp2_with fail
        with_reducible refine (note_v HI3.out.po ⟨9, 2, id, ep + 1, 0⟩ none 0 0 (by have := HI3.out.len; omega) rfl).mono ?_
        rintro en w3 ⟨rfl, h3, k3⟩
        have HP3 : Hid (PO W p (noteG G ⟨9, 2, id, ep + 1, 0⟩) w3) := Lib.hid h3
        have HBX3 := Lib.hid (k3.box HI3.out.box (by decide) (by decide))
        have HF2 := Lib.hid (HC2.out _ HF1.out.2.2.2)
        clear h3 k3 HI3 y0 y1 y2 y3 y4 y5 HI HBY3
        obtain ⟨y0, y1, y2, y3, y4, y5⟩ := (show _ ∧ _ ∧ _ ∧ _ ∧ _ ∧ _ from ⟨HBX3.out.cell 0, HBX3.out.cell 1, HBX3.out.cell 2, HBX3.out.cell 3, HBX3.out.cell 4, HBX3.out.cell 5⟩)
        go_wp2_with fail
        with_reducible refine (check_v HP3.out ⟨9, 2, id, ep, 0⟩ none 0 0 HF2.out.1).mono ?_
        rintro en w4 ⟨rfl, h4, _⟩
        have HP4 := Lib.hid h4
        clear h4 HP3 y0 y1 y2 y3 y4 y5
        go_wp2_with fail
        with_reducible refine (epoch_v HP4.out id hid1.out.2 HF2.out.2).mono ?_
        rintro en w5 ⟨rfl, h5, _⟩
        have HP5 := Lib.hid h5
        clear h5 HP4
        go_wp2_with fail
        with_reducible refine (cl _).mono ?_
        rintro en w6 ⟨rfl, hb⟩
        have HP6 := Lib.hid (HP5.out.later hb)
        clear hb HP5
        go_wp2_with fail
        go_ret
        exact ⟨rfl, HP6.out.bel⟩
end Go.Proofs.Ytdhakekndinbeaa
