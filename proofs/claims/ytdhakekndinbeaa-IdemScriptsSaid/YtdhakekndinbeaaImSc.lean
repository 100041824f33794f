/- idem: the law IdemScripts walks to true. No condition. -/
import Derived.Test.YtdhakekndinbeaaImOs
namespace Go.Proofs.Ytdhakekndinbeaa
open Go.RowKit
set_option linter.unusedVariables false
structure ScI (W : World) (p q : Nat) (G : List GH) (w : World) : Prop where
  po : PO W p G w
  ro : RO W q G w
theorem ScI.later {W w w' : World} {p q : Nat} {G : List GH} (h : ScI W p q G w) (hb : Below w.heap.size w w') : ScI W p q G w' := ⟨h.po.later hb, h.ro.later hb⟩
def oxC (x : OX) : Array Value := #[.int .i64 x.1, .int .i64 x.2.1.1.base, .int .i64 x.2.1.1.span, .int .i64 x.2.1.1.prod, .int .i64 x.2.1.1.epoch, .int .i64 x.2.1.1.seq, .slice x.2.1.2.1 x.2.1.2.2.1 x.2.1.2.2.2, .int .i64 x.2.2]
theorem ox8 {w : World} {o : Nat} {x : OX} (h : Box w o 33 (oxC x)) : w.cell? ⟨o, 0, none⟩ = some (.int .i64 x.1) ∧ w.cell? ⟨o, 1, none⟩ = some (.int .i64 x.2.1.1.base) ∧ w.cell? ⟨o, 2, none⟩ = some (.int .i64 x.2.1.1.span) ∧ w.cell? ⟨o, 3, none⟩ = some (.int .i64 x.2.1.1.prod) ∧ w.cell? ⟨o, 4, none⟩ = some (.int .i64 x.2.1.1.epoch) ∧ w.cell? ⟨o, 5, none⟩ = some (.int .i64 x.2.1.1.seq) ∧ w.cell? ⟨o, 6, none⟩ = some (.slice x.2.1.2.1 x.2.1.2.2.1 x.2.1.2.2.2) ∧ w.cell? ⟨o, 7, none⟩ = some (.int .i64 x.2.2) :=
  ⟨h.cell 0, h.cell 1, h.cell 2, h.cell 3, h.cell 4, h.cell 5, h.cell 6, h.cell 7⟩
theorem sc7 {W w w' : World} {p q o : Nat} {G : List GH} {v : Value} (h : w.cell? ⟨o, 7, none⟩ = some v ∧ ScI W p q G w) (hb : Below w.heap.size w w') : w'.cell? ⟨o, 7, none⟩ = some v ∧ ScI W p q G w' := ⟨(hb.cell (cell_lt h.1)).trans h.1, h.2.later hb⟩
set_option maxHeartbeats 16000000 in
set_option maxRecDepth 100000 in
theorem idemScripts_walk (A : Option Addr) (c : Nat) (L : List OX) (W : World) (hL : OxsIn W A L) : Calls Try.prog 3 #[.slice A L.length c] W (Yes W) := by
  have cl := fun w => live_c w
  unfold Yes at cl
  have cn := new_c W
  unfold dp at cn
  have HL := Lib.hid hL
  have HP := Lib.hid (PO.new (W := W) (Below.refl _ W))
  clear hL
  go_enter Try.func3, Try.ntmps3
  go_wp2_with fail
  with_reducible refine cn.mono ?_
  rintro en w0 ⟨rfl, rfl⟩
  clear cn
  generalize (W.alloc (.cells #[.map none] 58)) = w0 at *
  obtain ⟨p, hp⟩ : ∃ p, W.heap.size = p := ⟨_, rfl⟩
  rw [hp]
  have HP2 : Hid (PO W p [] w0) := Lib.hid (by rw [← hp]; exact HP.out)
  have HR2 : Hid (RO W w0.heap.size [] (w0.alloc (.cells #[.slice none 0 0] 28))) := Lib.hid (RO.new HP2.out.bel)
  have HS0 : Hid (ScI W p w0.heap.size [] (w0.alloc (.cells #[.slice none 0 0] 28))) := Lib.hid ⟨HP2.out.later ((Below.refl _ _).alloc (Nat.le_refl _) _), HR2.out⟩
  clear hp HP HP2 HR2
  go_wp2_with fail
  generalize (w0.alloc (.cells #[.slice none 0 0] 28)) = w1 at *
  generalize w0.heap.size = q at *
  go_loopw [3, 5] (fun pv i wr => ∃ (k p : Nat) (G : List GH), pv = .pointer (some ⟨p, 0, none⟩) ∧ i = .int .i64 k ∧ k ≤ L.length ∧ k ≤ 80 ∧ G.length ≤ k ∧ PO W p G wr ∧ RO W q G wr) (fun _ i _ => L.length - (intOf i).toNat)
  case atStart => exact ⟨0, p, [], rfl, rfl, Nat.zero_le _, by decide, Nat.le_refl _, HS0.out.po, HS0.out.ro⟩
  case round =>
    obtain ⟨k, pp, G, rfl, rfl, hk, hk8, hGk, hP, hR⟩ := hrel
    have HI : Hid (ScI W pp q G wr) := Lib.hid ⟨hP, hR⟩
    clear hP hR HS0
    by_cases hkl : k < L.length ∧ k < 80
    · obtain ⟨hk1, hk2⟩ := hkl
      obtain ⟨x, hx⟩ : ∃ x, L[k]? = some x := ⟨_, List.getElem?_eq_getElem hk1⟩
      obtain ⟨b, off, rfl, hbl, z0, ⟨z1, z2, z3, z4, z5, z6⟩, z7, hN⟩ := HL.out.at_ HI.out.po.bel hx
      have HN := Lib.hid hN
      have hK0 : (0 : Int) ≤ (k : Int) := by omega
      have hK1 : (k : Int) < (L.length : Int) := by omega
      have hK8 : (k : Int) < 80 := by omega
      have hBn : Below wr.heap.size wr (wr.alloc (.cells (oxC x) 33)) := (Below.refl _ _).alloc (Nat.le_refl _) _
      have HI1 := Lib.hid (HI.out.later hBn)
      have HX1 := Lib.hid (Box.new wr 33 (oxC x))
      clear hx hN hBn
      by_cases d0 : x.1 = 0
      · have e0 : (x.1 == (0 : Int)) = true := by rw [d0]; rfl
        obtain ⟨n, t, e, hc⟩ : ∃ n t e, chkG G x.2.1.1 = (n, t, e) := ⟨_, _, _, rfl⟩
        have cp := check_v HI1.out.po x.2.1.1 x.2.1.2.1 x.2.1.2.2.1 x.2.1.2.2.2 hc
        have HC := Lib.hid hc
        clear d0 hc
        unfold oxC at HI1 HX1 cp
        go_wp2_with fail
        with_reducible refine cp.mono ?_
        rintro en w3 ⟨rfl, h3, hb3⟩
        have HS3 : Hid (ScI W pp q G w3) := Lib.hid ⟨h3, HI1.out.ro.later hb3⟩
        obtain ⟨y0, y1, y2, y3, y4, y5, y6, y7⟩ := ox8 (HX1.out.later hb3)
        clear h3 hb3 HI1 HX1 cp z0 z1 z2 z3 z4 z5 z6 z7 HI
        go_wp2_with fail
        with_reducible refine (HS3.out.ro.check x.2.1.1 x.2.1.2.1 x.2.1.2.2.1 x.2.1.2.2.2 (by omega) HC.out).mono ?_
        rintro en w4 ⟨rfl, h4, hb4⟩
        have HS : Hid (ScI W pp q G w4) := Lib.hid ⟨HS3.out.po.later hb4, h4⟩
        have HGL : Hid (G.length ≤ k + 1) := Lib.hid (by omega)
        obtain ⟨GG, hGG⟩ : ∃ GG, G = GG := ⟨_, rfl⟩
        rw [hGG] at HS HGL
        clear h4 hb4 HS3 y0 y1 y2 y3 y4 y5 y6 y7 hGG hGk
        have n1 : (n == n) = true := beq_self_eq_true n
        have n2 : (e == e) = true := beq_self_eq_true e
        cases t
        all_goals
          go_wp2_with fail
          with_reducible refine (print_v HS.out.po (by have := HGL.out; omega)).mono ?_
          rintro en w7 ⟨rfl, h7, hb7⟩
          have HS7 : Hid (ScI W pp q GG w7) := Lib.hid ⟨h7, HS.out.ro.later hb7⟩
          clear h7 hb7 HS
          go_wp2_with fail
          with_reducible refine (HS7.out.ro.print (by have := HGL.out; omega)).mono ?_
          rintro en w8 ⟨rfl, h8, hb8⟩
          have HS8 : Hid (ScI W pp q GG w8) := Lib.hid ⟨HS7.out.po.later hb8, h8⟩
          clear h8 hb8 HS7
          go_wp2_with fail
          exact ⟨⟨k + 1, pp, GG, rfl, by go_num, hk1, hk2, HGL.out, HS8.out.po, HS8.out.ro⟩, by simp [intOf]; omega⟩
      have e0 : (x.1 == (0 : Int)) = false := by simp [d0]
      by_cases d1 : x.1 = 1
      · have e1 : (x.1 == (1 : Int)) = true := by rw [d1]; rfl
        have cp := note_v HI1.out.po x.2.1.1 x.2.1.2.1 x.2.1.2.2.1 x.2.1.2.2.2 (by omega) rfl
        clear d0 d1
        unfold oxC at HI1 HX1 cp
        go_wp2_with fail
        with_reducible refine cp.mono ?_
        rintro en w3 ⟨rfl, h3, k3⟩
        have HP3 := Lib.hid h3
        have HR3 := Lib.hid (HI1.out.ro.keep k3 h3.bel)
        obtain ⟨y0, y1, y2, y3, y4, y5, y6, y7⟩ := ox8 (x := x) (k3.box HX1.out (by decide) (by decide))
        clear h3 k3 HI1 HX1 cp z0 z1 z2 z3 z4 z5 z6 z7 HI
        go_wp2_with fail
        with_reducible refine (HR3.out.note x.2.1.1 x.2.1.2.1 x.2.1.2.2.1 x.2.1.2.2.2 (by omega)).mono ?_
        rintro en w4 ⟨rfl, h4, k4⟩
        have HS : Hid (ScI W pp q (noteG G x.2.1.1) w4) := Lib.hid ⟨HP3.out.keep k4 h4.bel, h4⟩
        have HGL : Hid ((noteG G x.2.1.1).length ≤ k + 1) := Lib.hid (by have := note_len G x.2.1.1; omega)
        obtain ⟨GG, hGG⟩ : ∃ GG, noteG G x.2.1.1 = GG := ⟨_, rfl⟩
        rw [hGG] at HS HGL
        clear h4 k4 HP3 HR3 y0 y1 y2 y3 y4 y5 y6 y7 hGG hGk
        go_wp2_with fail
        with_reducible refine (print_v HS.out.po (by have := HGL.out; omega)).mono ?_
        rintro en w7 ⟨rfl, h7, hb7⟩
        have HS7 : Hid (ScI W pp q GG w7) := Lib.hid ⟨h7, HS.out.ro.later hb7⟩
        clear h7 hb7 HS
        go_wp2_with fail
        with_reducible refine (HS7.out.ro.print (by have := HGL.out; omega)).mono ?_
        rintro en w8 ⟨rfl, h8, hb8⟩
        have HS8 : Hid (ScI W pp q GG w8) := Lib.hid ⟨HS7.out.po.later hb8, h8⟩
        clear h8 hb8 HS7
        go_wp2_with fail
        exact ⟨⟨k + 1, pp, GG, rfl, by go_num, hk1, hk2, HGL.out, HS8.out.po, HS8.out.ro⟩, by simp [intOf]; omega⟩
      have e1 : (x.1 == (1 : Int)) = false := by simp [d1]
      by_cases d2 : x.1 = 2
      · have e2 : (x.1 == (2 : Int)) = true := by rw [d2]; rfl
        obtain ⟨r, hr⟩ : ∃ r, epoG G x.2.2 = r := ⟨_, rfl⟩
        have HRR := Lib.hid hr
        clear d0 d1 d2 hr
        have y7 := (ox8 HX1.out).2.2.2.2.2.2.2
        have hS : (fun w => w.cell? ⟨wr.heap.size, 7, none⟩ = some (.int .i64 x.2.2) ∧ ScI W pp q G w) (wr.alloc (.cells (oxC x) 33)) := ⟨y7, HI1.out⟩
        clear y7
        unfold oxC at HI1 HX1 hS
        go_wp2_with fail
        have ce : ∀ w, (w.cell? ⟨wr.heap.size, 7, none⟩ = some (.int .i64 x.2.2) ∧ ScI W pp q G w) → Calls Try.prog 14 #[.pointer (some ⟨pp, 0, none⟩), .int .i64 x.2.2] w (fun en w' => en = .returned (.int .i64 r) ∧ Below w.heap.size w w') := fun w h => (epoch_v h.2.po x.2.2 HN.out HRR.out).mono (by rintro en w3 ⟨rfl, _, hb⟩; exact ⟨rfl, hb⟩)
        have cf : ∀ w, (w.cell? ⟨wr.heap.size, 7, none⟩ = some (.int .i64 x.2.2) ∧ ScI W pp q G w) → Calls Try.prog 15 #[.pointer (some ⟨q, 0, none⟩), .int .i64 x.2.2] w (fun en w' => en = .returned (.int .i64 r) ∧ Below w.heap.size w w') := fun w h => by
          refine (h.2.ro.epoch x.2.2 (by omega) HRR.out).mono ?_
          rintro en w3 ⟨rfl, rfl⟩
          exact ⟨rfl, Below.refl _ _⟩
        go_region_held3 (fun w => w.cell? ⟨wr.heap.size, 7, none⟩ = some (.int .i64 x.2.2) ∧ ScI W pp q G w)
          (first | exact sc7 hS ((Below.refl _ _).drew) | exact sc7 (by assumption) (by assumption) | assumption)
          (first
            | ((with_reducible refine (ce _ (by assumption)).mono ?_); rintro e w3 ⟨rfl, hb3⟩)
            | ((with_reducible refine (cf _ (by assumption)).mono ?_); rintro e w3 ⟨rfl, hb3⟩))
        all_goals
          rename_i hH
          have HS : Hid (ScI W pp q G w3) := Lib.hid hH.2
          have HGL : Hid (G.length ≤ k + 1) := Lib.hid (by omega)
          obtain ⟨GG, hGG⟩ : ∃ GG, G = GG := ⟨_, rfl⟩
          rw [hGG] at HS HGL
          clear hH hb3 hS ce cf hGG hGk HI1 HX1 z0 z1 z2 z3 z4 z5 z6 z7 HI
          go_wp2_with fail
          with_reducible refine (print_v HS.out.po (by have := HGL.out; omega)).mono ?_
          rintro en w7 ⟨rfl, h7, hb7⟩
          have HS7 : Hid (ScI W pp q GG w7) := Lib.hid ⟨h7, HS.out.ro.later hb7⟩
          clear h7 hb7 HS
          go_wp2_with fail
          with_reducible refine (HS7.out.ro.print (by have := HGL.out; omega)).mono ?_
          rintro en w8 ⟨rfl, h8, hb8⟩
          have HS8 : Hid (ScI W pp q GG w8) := Lib.hid ⟨HS7.out.po.later hb8, h8⟩
          clear h8 hb8 HS7
          go_wp2_with fail
          exact ⟨⟨k + 1, pp, GG, rfl, by go_num, hk1, hk2, HGL.out, HS8.out.po, HS8.out.ro⟩, by simp [intOf]; omega⟩
      have e2 : (x.1 == (2 : Int)) = false := by simp [d2]
      clear d0 d1 d2
      unfold oxC at HI1 HX1
      go_wp2_with fail
      with_reducible refine (print_v HI1.out.po (by omega)).mono ?_
      rintro en w3 ⟨rfl, h3, hb3⟩
      have HS3 : Hid (ScI W pp q G w3) := Lib.hid ⟨h3, HI1.out.ro.later hb3⟩
      clear h3 hb3 HI1 HX1 z0 z1 z2 z3 z4 z5 z6 z7 HI
      have cb := parse_back HS3.out.po.ok (by omega) HS3.out.po.bel
      unfold dp at cb
      go_wp2_with fail
      with_reducible refine cb.mono ?_
      rintro en w4 ⟨pq, rfl, h4, hb4⟩
      have HS : Hid (ScI W pq q G w4) := Lib.hid ⟨h4, HS3.out.ro.later hb4⟩
      have HGL : Hid (G.length ≤ k + 1) := Lib.hid (by omega)
      clear h4 hb4 HS3 cb
      obtain ⟨GG, hGG⟩ : ∃ GG, G = GG := ⟨_, rfl⟩
      rw [hGG] at HS HGL
      clear hGG hGk
      go_wp2_with fail
      with_reducible refine (print_v HS.out.po (by have := HGL.out; omega)).mono ?_
      rintro en w7 ⟨rfl, h7, hb7⟩
      have HS7 : Hid (ScI W pq q GG w7) := Lib.hid ⟨h7, HS.out.ro.later hb7⟩
      clear h7 hb7 HS
      go_wp2_with fail
      with_reducible refine (HS7.out.ro.print (by have := HGL.out; omega)).mono ?_
      rintro en w8 ⟨rfl, h8, hb8⟩
      have HS8 : Hid (ScI W pq q GG w8) := Lib.hid ⟨HS7.out.po.later hb8, h8⟩
      clear h8 hb8 HS7
      go_wp2_with fail
      exact ⟨⟨k + 1, pq, GG, rfl, by go_num, hk1, hk2, HGL.out, HS8.out.po, HS8.out.ro⟩, by simp [intOf]; omega⟩
    · have hstop : ¬ ((k : Int) < (L.length : Int)) ∨ (k : Int) < (L.length : Int) ∧ ¬ ((k : Int) < 80) := by omega
      clear hkl
      rcases hstop with hs | ⟨hs1, hs2⟩
      all_goals
        go_wp2_with fail
        with_reducible refine (cl _).mono ?_
        rintro en w3 ⟨rfl, hb⟩
        have H3 := Lib.hid (HI.out.po.later hb)
        clear hb
        go_wp2_with fail
        go_ret
        exact ⟨rfl, H3.out.bel⟩
end Go.Proofs.Ytdhakekndinbeaa
