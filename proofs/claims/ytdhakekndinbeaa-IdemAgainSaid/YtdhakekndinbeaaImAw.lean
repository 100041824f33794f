/- idem: the law IdemAgain walks to true. No condition. -/
import Derived.Test.YtdhakekndinbeaaImAm
import Derived.Lib.MinMax
namespace Go.Proofs.Ytdhakekndinbeaa
open Go.RowKit
set_option linter.unusedVariables false
structure AgI (W : World) (p : Nat) (ep seq base : Int) (k n : Nat) (T : List BN) (A : Option Addr) (c : Nat) (G : List GH) (w : World) : Prop where
  po : PO W p G w
  row : w.ownsRow W.heap.size 31 6 (.slice A n c) n (bnsC T)
  one : findG G 7 = ag1 ep T
  len : G.length ≤ k
  t : AgT ep seq base k T
  n : T.length = n
theorem AgI.later {W w w' : World} {p k n c : Nat} {ep seq base : Int} {T : List BN} {A : Option Addr} {G : List GH} (h : AgI W p ep seq base k n T A c G w) (hb : Below w.heap.size w w') : AgI W p ep seq base k n T A c G w' := ⟨h.po.later hb, own_below h.row hb, h.one, h.len, h.t, h.n⟩
theorem AgI.bump {W w : World} {p k n c : Nat} {ep seq base : Int} {T : List BN} {A : Option Addr} {G : List GH} (h : AgI W p ep seq base k n T A c G w) : AgI W p ep seq base (k + 1) n T A c G w := ⟨h.po, h.row, h.one, Nat.le_succ_of_le h.len, h.t.bump, h.n⟩
theorem AgI.at_ {W w : World} {p k n c : Nat} {ep seq base : Int} {T : List BN} {A : Option Addr} {G : List GH} (h : AgI W p ep seq base k n T A c G w) {j : Nat} {x : BN} (hx : T[j]? = some x) :
    ∃ g, A = some ⟨g, 0, none⟩ ∧ g < w.heap.size ∧ w.cell? ⟨g, j * 6, none⟩ = some (.int .i64 x.base) ∧ w.cell? ⟨g, j * 6 + 1, none⟩ = some (.int .i64 x.span) ∧ w.cell? ⟨g, j * 6 + 2, none⟩ = some (.int .i64 x.prod) ∧ w.cell? ⟨g, j * 6 + 3, none⟩ = some (.int .i64 x.epoch) ∧ w.cell? ⟨g, j * 6 + 4, none⟩ = some (.int .i64 x.seq) ∧ w.cell? ⟨g, j * 6 + 5, none⟩ = some (.slice none 0 0) := row_bat (A := A) (c := c) (by rw [h.n]; exact h.row) hx
structure AgJ (W : World) (p : Nat) (ep seq base : Int) (k n : Nat) (T : List BN) (A : Option Addr) (c : Nat) (G : List GH) (q : Nat) (cs : Array Value) (w : World) : Prop where
  ag : AgI W p ep seq base k n T A c G w
  box : Box w q 31 cs
theorem AgJ.later {W w w' : World} {p k n c q : Nat} {ep seq base : Int} {T : List BN} {A : Option Addr} {G : List GH} {cs : Array Value} (h : AgJ W p ep seq base k n T A c G q cs w) (hb : Below w.heap.size w w') : AgJ W p ep seq base k n T A c G q cs w' := ⟨h.ag.later hb, h.box.later hb⟩
theorem box6 {w : World} {q : Nat} {t : TypeId} {v0 v1 v2 v3 v4 v5 : Value} (h : Box w q t #[v0, v1, v2, v3, v4, v5]) : w.cell? ⟨q, 0, none⟩ = some v0 ∧ w.cell? ⟨q, 1, none⟩ = some v1 ∧ w.cell? ⟨q, 2, none⟩ = some v2 ∧ w.cell? ⟨q, 3, none⟩ = some v3 ∧ w.cell? ⟨q, 4, none⟩ = some v4 ∧ w.cell? ⟨q, 5, none⟩ = some v5 :=
  ⟨h.cell 0, h.cell 1, h.cell 2, h.cell 3, h.cell 4, h.cell 5⟩
set_option maxHeartbeats 32000000 in
set_option maxRecDepth 100000 in
theorem idemAgain_walk (A0 : Option Addr) (len cap : Nat) (z : List Int) (ep : Int) (W : World) (hz : IntRow .i64 W A0 len cap z) (w1 : (Lit.int .i64 ep).wf = true) : Calls Try.prog 7 #[.slice A0 len cap, .int .i64 ep] W (Yes W) := by
  have cl := fun w => live_c w
  unfold Yes at cl
  by_cases hg : len ≤ 40 ∧ 0 ≤ ep ∧ ep ≤ 32768
  case neg =>
    have hbad : 40 < len ∨ (len ≤ 40 ∧ ep < 0) ∨ (len ≤ 40 ∧ 0 ≤ ep ∧ 32768 < ep) := by omega
    clear hg hz w1
    rcases hbad with h | ⟨h1, h2⟩ | ⟨h1, h2, h3⟩
    all_goals
      go_enter Try.func7, Try.ntmps7
      go_wp2_with fail
      with_reducible refine (cl _).mono ?_
      rintro en w1 ⟨rfl, hb⟩
      have HB := Lib.hid hb
      clear hb
      go_wp2_with fail
      go_ret
      exact ⟨rfl, HB.out⟩
  case pos =>
    obtain ⟨g1, g2, g3⟩ := hg
    have HZ := Lib.hid hz.2.2.2.2
    have hep : Hid (0 ≤ ep ∧ ep ≤ 32768) := Lib.hid ⟨g2, g3⟩
    have cn := new_c W
    have cs := fun e q p b w => sent_v e q p b w
    obtain ⟨i0, hi, hz0, hz1, hz2⟩ := info_parts batInfo
    have HP := Lib.hid (PO.new (W := W) (Below.refl _ W))
    unfold dp at cn
    clear hz w1
    go_enter Try.func7, Try.ntmps7
    go_wp2_with fail
    with_reducible refine cn.mono ?_
    rintro en w0 ⟨rfl, rfl⟩
    clear cn
    generalize (W.alloc (.cells #[.map none] 58)) = w0 at *
    obtain ⟨p, hp⟩ : ∃ p, W.heap.size = p := ⟨_, rfl⟩
    rw [hp]
    have H0 : Hid (AgI W p ep 0 0 0 0 [] none 0 [] w0) := Lib.hid ⟨by rw [← hp]; exact HP.out, World.ownsRow_nil _ _ _ _, rfl, Nat.le_refl _, AgT.nil ep, rfl⟩
    clear hp HP
    go_wp2_with fail
    go_loopw [6, 7, 8, 9] (fun sq bs l i wr => ∃ (k n : Nat) (seq base : Int) (T : List BN) (A : Option Addr) (c : Nat) (G : List GH), sq = .int .i64 seq ∧ bs = .int .i64 base ∧ l = .slice A n c ∧ i = .int .i64 k ∧ k ≤ len ∧ AgI W p ep seq base k n T A c G wr) (fun _ _ _ i _ => len - (intOf i).toNat)
    case atStart => exact ⟨0, 0, 0, 0, [], none, 0, [], rfl, rfl, rfl, rfl, Nat.zero_le _, H0.out⟩
    case round =>
      obtain ⟨k, n, seq, base, T, A, c, G, rfl, rfl, rfl, rfl, hk, hI⟩ := hrel
      have HI := Lib.hid hI
      clear hI H0
      by_cases hkl : k < len
      · obtain ⟨b0, off, rfl, hb0, hcell⟩ := HZ.out (by omega)
        have hzc := hcell k hkl
        have hz1c := ((HI.out.po.bel.cell (p := ⟨b0, off + k, none⟩) hb0)).trans hzc
        have hK0 : (0 : Int) ≤ (k : Int) := by omega
        have hK1 : (k : Int) < (len : Int) := by omega
        have HZC := Lib.hid hzc
        clear hcell hzc
        generalize z.getD k 0 = x at *
        by_cases hx : 1 ≤ x ∧ x ≤ 50
        · obtain ⟨hx1, hx2⟩ := hx
          have e1 : ¬ x < 1 := by omega
          have e2 : ¬ 50 < x := by omega
          have hs := HI.out.t.s0
          have hbs := HI.out.t.b0
          have hln := HI.out.t.len
          have hnn := HI.out.n
          have hwg : IntKind.i64.wrap (seq + 51) = seq + 51 := by rw [IntKind.wrap_i64]; omega
          have hws : IntKind.i64.wrap (seq + x) = seq + x := by rw [IntKind.wrap_i64]; omega
          have hwb : IntKind.i64.wrap (base + x) = base + x := by rw [IntKind.wrap_i64]; omega
          have hwk : IntKind.i64.wrap (base + x + (k : Int)) = base + x + (k : Int) := by rw [IntKind.wrap_i64]; omega
          have HC1 : Hid (chkG G ⟨base, x, 7, ep, seq⟩ = (0, false, 0)) := Lib.hid (by rw [ag_next HI.out.t (by omega) HI.out.one hep.out ⟨hx1, hx2⟩ (Int.le_refl _) (by omega), if_pos rfl])
          have HC2 : Hid (chkG G ⟨base, x, 7, ep, seq + 51⟩ = (0, false, 9)) := Lib.hid (by rw [ag_next HI.out.t (by omega) HI.out.one hep.out ⟨hx1, hx2⟩ (q := seq + 51) (by omega) (by omega), if_neg (by omega)])
          have HF : Hid (findG (noteG G ⟨base, x, 7, ep, seq⟩) 7 = ag1 ep (T ++ [⟨base, x, 7, ep, seq⟩])) := Lib.hid (ag_note HI.out.t (by omega) HI.out.one hep.out ⟨hx1, hx2⟩)
          have HT := Lib.hid (HI.out.t.add (by omega) hx1 hx2)
          have hgl : G.length ≤ 100000 := by have := HI.out.len; omega
          have hgk := HI.out.len
          have HGK : Hid ((noteG G ⟨base, x, 7, ep, seq⟩).length ≤ k + 1) := Lib.hid (by have := note_len G ⟨base, x, 7, ep, seq⟩; omega)
          clear hgk
          go_wp2_with fail
          with_reducible refine (cs _ _ _ _ _).mono ?_
          rintro en w1 ⟨rfl, hb1⟩
          have HI1 := Lib.hid (HI.out.later hb1)
          have HBX := Lib.hid (Box.new w1 31 #[.int .i64 base, .int .i64 x, .int .i64 7, .int .i64 ep, .int .i64 seq, .slice none 0 0])
          have HB1 := Lib.hid ((Below.refl w1.heap.size w1).alloc (Nat.le_refl _) (.cells #[.int .i64 base, .int .i64 x, .int .i64 7, .int .i64 ep, .int .i64 seq, .slice none 0 0] 31))
          have HQ := Lib.hid (fun j e => (HI1.out.row.lt j e).2)
          clear hb1 hz1c HI
          go_wp2_with fail
          with_reducible refine (check_v (HI1.out.po.later HB1.out) ⟨base, x, 7, ep, seq⟩ none 0 0 HC1.out).mono ?_
          rintro en w2 ⟨rfl, _, hb2⟩
          have HI2 := Lib.hid ((HI1.out.later HB1.out).later hb2)
          have HBX2 := Lib.hid (HBX.out.later hb2)
          clear hb2 HB1 HI1 HBX
          generalize w1.heap.size = q at *
          have HBG := Lib.hid ((Below.refl w2.heap.size w2).alloc (Nat.le_refl _) (.cells #[.int .i64 base, .int .i64 x, .int .i64 7, .int .i64 ep, .int .i64 (seq + 51), .slice none 0 0] 31))
          obtain ⟨y0, y1, y2, y3, y4, y5⟩ := box6 HBX2.out
          go_wp2_with fail
          with_reducible refine (check_v (HI2.out.po.later HBG.out) ⟨base, x, 7, ep, seq + 51⟩ none 0 0 HC2.out).mono ?_
          rintro en w3 ⟨rfl, _, hb3⟩
          have HI3 := Lib.hid ((HI2.out.later HBG.out).later hb3)
          have HBX3 := Lib.hid ((HBX2.out.later HBG.out).later hb3)
          clear y0 y1 y2 y3 y4 y5 hb3 HBG HI2 HBX2
          obtain ⟨y0, y1, y2, y3, y4, y5⟩ := box6 HBX3.out
          go_wp2_with fail
          with_reducible refine (note_v HI3.out.po ⟨base, x, 7, ep, seq⟩ none 0 0 hgl rfl).mono ?_
          rintro en w4 ⟨rfl, h4, k4⟩
          have HPO4 : Hid (PO W p (noteG G ⟨base, x, 7, ep, seq⟩) w4) := Lib.hid h4
          have hal : Below w4.heap.size w4 (w4.alloc (.cells #[.int .i64 base, .int .i64 x, .int .i64 7, .int .i64 ep, .int .i64 seq, .slice none 0 0] 31)) := (Below.refl _ _).alloc (Nat.le_refl _) _
          have HBX4 := Lib.hid (k4.box HBX3.out (by decide) (by decide))
          have HR4 := Lib.hid (row_keepP HI3.out.row k4)
          have hrow := own_below HR4.out hal
          have HPA := Lib.hid (HPO4.out.later hal)
          have HBA := Lib.hid (HBX4.out.later hal)
          have HNW := Lib.hid (news_at (Box.new w4 31 #[.int .i64 base, .int .i64 x, .int .i64 7, .int .i64 ep, .int .i64 seq, .slice none 0 0]))
          have hone := bat_one base x 7 ep seq
          have hsz := HPA.out.bel.size
          clear y0 y1 y2 y3 y4 y5 h4 k4 hal HI3 HBX3 HR4
          obtain ⟨y0, y1, y2, y3, y4, y5⟩ := box6 HBX4.out
          go_wp2_with (at_builtin; refine wpList_append_own_at _ rfl _ _ 47 rfl W.heap.size 31 i0 _ 6 64 Try.underlying47 hi hz0 hz1 hz2 batC_zero (by decide) (.slice A n c) n (bnsC T) rfl hrow ⟨w4.heap.size, 0, none⟩ 1 1 [.int .i64 base, .int .i64 x, .int .i64 7, .int .i64 ep, .int .i64 seq, .slice none 0 0] rfl rfl HNW.out hone (by unfold maxLen; omega) (by omega) hsz ?_)
          intro v' w5 hown' hgrow _ _
          obtain ⟨m, hm⟩ : ∃ m, n + 1 = m := ⟨_, rfl⟩
          rw [hm] at hown'
          obtain ⟨g', cap', rfl⟩ : ∃ g' cap', v' = .slice (some ⟨g', 0, none⟩) m cap' := by
            rcases hown'.2 with ⟨_, h0⟩ | ⟨g, cap, cur, hv, _⟩
            · omega
            · exact ⟨g, cap, hv⟩
          have hbel5 := HPA.out.bel.grown hgrow hsz (fun j e => (hrow.lt j e).1)
          have HJ : Hid (AgJ W p ep (seq + x) (base + x + k) (k + 1) m (T ++ [⟨base, x, 7, ep, seq⟩]) (some ⟨g', 0, none⟩) cap' (noteG G ⟨base, x, 7, ep, seq⟩) q #[.int .i64 base, .int .i64 x, .int .i64 7, .int .i64 ep, .int .i64 seq, .slice none 0 0] w5) :=
            Lib.hid ⟨⟨HPA.out.keepB (keepB hrow hgrow) hbel5, by rw [bnsC_snoc]; exact hown', HF.out, HGK.out, HT.out, by rw [List.length_append, hnn]; exact hm⟩, box_grown HBA.out hgrow HQ.out⟩
          have hz5 := (hbel5.cell (p := ⟨b0, off + k, none⟩) hb0).trans HZC.out
          have HMN : Hid (n + 1 = m ∧ n ≤ k) := Lib.hid ⟨hm, by omega⟩
          clear y0 y1 y2 y3 y4 y5 hown' hgrow hrow hone hsz hbel5 HPA HBA HNW HBX4 HPO4 HC1 HC2 HF HT HGK HQ HZC hwg hm hln hnn
          generalize (T ++ [(⟨base, x, 7, ep, seq⟩ : BN)]) = T' at *
          generalize noteG G ⟨base, x, 7, ep, seq⟩ = G' at *
          have hm40 : m ≤ 41 := by have := HMN.out; omega
          have hw5 : IntKind.i64.wrap ((m : Int) - 5) = (m : Int) - 5 := by rw [IntKind.wrap_i64]; omega
          rcases Nat.lt_or_ge 5 m with h5 | h5
          · have h5a : (0 : Int) < (m : Int) - 5 := by omega
            have h5b : (5 : Int) < (m : Int) := by omega
            obtain ⟨m6, hm6⟩ : ∃ m6, m = m6 + 6 := ⟨m - 6, by omega⟩
            have hw6 : IntKind.i64.wrap ((m : Int) - 6) = (m6 : Int) := by rw [IntKind.wrap_i64]; omega
            have h60 : (0 : Int) ≤ (m6 : Int) := by omega
            have h61 : (m6 : Int) < (m : Int) := by omega
            have HM6 := Lib.hid hm6
            clear hm6
            go_wp2_with fail
            go_loopw [18] (fun i wr => ∃ j : Nat, i = .int .i64 j ∧ m - 5 ≤ j ∧ j ≤ m ∧ AgJ W p ep (seq + x) (base + x + k) (k + 1) m T' (some ⟨g', 0, none⟩) cap' G' q #[.int .i64 base, .int .i64 x, .int .i64 7, .int .i64 ep, .int .i64 seq, .slice none 0 0] wr) (fun i _ => m - (intOf i).toNat)
            case atStart => exact ⟨m - 5, by congr 1; omega, Nat.le_refl _, Nat.sub_le _ _, HJ.out⟩
            case round =>
              obtain ⟨j, rfl, hj5, hjm, hJ⟩ := hrel
              have HJ2 := Lib.hid hJ
              clear hJ HJ
              by_cases hjl : j < m
              · obtain ⟨y, hy⟩ : ∃ y, T'[j]? = some y := ⟨_, List.getElem?_eq_getElem (by rw [HJ2.out.ag.n]; exact hjl)⟩
                obtain ⟨g2, hg2, hgl2, z0, z1, z2, z3, z4, z5⟩ := HJ2.out.ag.at_ hy
                obtain rfl : g' = g2 := by injection hg2 with e; injection e
                have hJ0 : (0 : Int) ≤ (j : Int) := by omega
                have hJ1 : (j : Int) < (m : Int) := by omega
                have HCA := Lib.hid (ag_again HJ2.out.ag.t (by omega) HJ2.out.ag.one hep.out hy (by rw [HJ2.out.ag.n]; exact hj5))
                have hyb : (y.base != y.base) = false := by simp
                clear hg2
                go_wp2_with fail
                with_reducible refine (check_v HJ2.out.ag.po y none 0 0 HCA.out).mono ?_
                rintro en w6 ⟨rfl, _, hb6⟩
                have HJ3 := Lib.hid (HJ2.out.later hb6)
                have z0' := ((hb6.cell (p := ⟨g', j * 6, none⟩) hgl2)).trans z0
                clear z0 z1 z2 z3 z4 z5 hb6 HJ2 HCA hy
                go_wp2_with fail
                go_roundw
                case rel => exact ⟨j + 1, by go_num, by omega, hjl, HJ3.out⟩
                case measure => simp [intOf]; omega
              · have hke : ¬ (j : Int) < (m : Int) := by omega
                clear hjl
                obtain ⟨y, hy⟩ : ∃ y, T'[m6]? = some y := ⟨_, List.getElem?_eq_getElem (by rw [HJ2.out.ag.n]; have := HM6.out; omega)⟩
                obtain ⟨g2, hg2, hgl2, z0, z1, z2, z3, z4, z5⟩ := HJ2.out.ag.at_ hy
                obtain rfl : g' = g2 := by injection hg2 with e; injection e
                have HCA := Lib.hid (ag_long HJ2.out.ag.t (by omega) HJ2.out.ag.one hep.out hy (by rw [HJ2.out.ag.n]; have := HM6.out; omega))
                clear hg2
                go_wp2_with fail
                with_reducible refine (check_v HJ2.out.ag.po y none 0 0 HCA.out).mono ?_
                rintro en w6 ⟨rfl, _, hb6⟩
                have HJ3 := Lib.hid (HJ2.out.later hb6)
                clear z0 z1 z2 z3 z4 z5 hb6 HJ2 HCA hy
                by_cases hep0 : 0 < ep
                · have hwo : IntKind.i64.wrap (ep - 1) = ep - 1 := by rw [IntKind.wrap_i64]; have := hep.out; omega
                  obtain ⟨y0, y1, y2, y3, y4, y5⟩ := box6 HJ3.out.box
                  have HCO := Lib.hid (ag_old (b := base) (n := x) (q := seq) (by rw [HJ3.out.ag.n]; have := HMN.out; omega) HJ3.out.ag.one ⟨hep0, hep.out.2⟩ ⟨hx1, hx2⟩ ⟨hs.1, by omega⟩)
                  have HBO := Lib.hid ((Below.refl w6.heap.size w6).alloc (Nat.le_refl _) (.cells #[.int .i64 base, .int .i64 x, .int .i64 7, .int .i64 (ep - 1), .int .i64 seq, .slice none 0 0] 31))
                  go_wp2_with fail
                  with_reducible refine (check_v (HJ3.out.ag.po.later HBO.out) ⟨base, x, 7, ep - 1, seq⟩ none 0 0 HCO.out).mono ?_
                  rintro en w7 ⟨rfl, _, hb7⟩
                  have HJ4 := Lib.hid ((HJ3.out.later HBO.out).later hb7)
                  clear y0 y1 y2 y3 y4 y5 hb7 HBO HCO HJ3
                  go_wp2_with fail
                  go_roundw
                  case rel => exact ⟨k + 1, m, seq + x, base + x + k, T', some ⟨g', 0, none⟩, cap', G', rfl, rfl, rfl, by go_num, hkl, HJ4.out.ag⟩
                  case measure => simp [intOf]; omega
                · go_wp2_with fail
                  go_roundw
                  case rel => exact ⟨k + 1, m, seq + x, base + x + k, T', some ⟨g', 0, none⟩, cap', G', rfl, rfl, rfl, by go_num, hkl, HJ3.out.ag⟩
                  case measure => simp [intOf]; omega
          · have h5a : ¬ (0 : Int) < (m : Int) - 5 := by omega
            have h5b : ¬ (5 : Int) < (m : Int) := by omega
            go_wp2_with fail
            go_loopw [18] (fun i wr => ∃ j : Nat, i = .int .i64 j ∧ m - 5 ≤ j ∧ j ≤ m ∧ AgJ W p ep (seq + x) (base + x + k) (k + 1) m T' (some ⟨g', 0, none⟩) cap' G' q #[.int .i64 base, .int .i64 x, .int .i64 7, .int .i64 ep, .int .i64 seq, .slice none 0 0] wr) (fun i _ => m - (intOf i).toNat)
            case atStart => exact ⟨m - 5, by congr 1; omega, Nat.le_refl _, Nat.sub_le _ _, HJ.out⟩
            case round =>
              obtain ⟨j, rfl, hj5, hjm, hJ⟩ := hrel
              have HJ2 := Lib.hid hJ
              clear hJ HJ
              by_cases hjl : j < m
              · obtain ⟨y, hy⟩ : ∃ y, T'[j]? = some y := ⟨_, List.getElem?_eq_getElem (by rw [HJ2.out.ag.n]; exact hjl)⟩
                obtain ⟨g2, hg2, hgl2, z0, z1, z2, z3, z4, z5⟩ := HJ2.out.ag.at_ hy
                obtain rfl : g' = g2 := by injection hg2 with e; injection e
                have hJ0 : (0 : Int) ≤ (j : Int) := by omega
                have hJ1 : (j : Int) < (m : Int) := by omega
                have HCA := Lib.hid (ag_again HJ2.out.ag.t (by omega) HJ2.out.ag.one hep.out hy (by rw [HJ2.out.ag.n]; exact hj5))
                have hyb : (y.base != y.base) = false := by simp
                clear hg2
                go_wp2_with fail
                with_reducible refine (check_v HJ2.out.ag.po y none 0 0 HCA.out).mono ?_
                rintro en w6 ⟨rfl, _, hb6⟩
                have HJ3 := Lib.hid (HJ2.out.later hb6)
                have z0' := ((hb6.cell (p := ⟨g', j * 6, none⟩) hgl2)).trans z0
                clear z0 z1 z2 z3 z4 z5 hb6 HJ2 HCA hy
                go_wp2_with fail
                go_roundw
                case rel => exact ⟨j + 1, by go_num, by omega, hjl, HJ3.out⟩
                case measure => simp [intOf]; omega
              · have hke : ¬ (j : Int) < (m : Int) := by omega
                clear hjl
                have HJ3 := HJ2
                clear HJ2
                by_cases hep0 : 0 < ep
                · have hwo : IntKind.i64.wrap (ep - 1) = ep - 1 := by rw [IntKind.wrap_i64]; have := hep.out; omega
                  obtain ⟨y0, y1, y2, y3, y4, y5⟩ := box6 HJ3.out.box
                  have HCO := Lib.hid (ag_old (b := base) (n := x) (q := seq) (by rw [HJ3.out.ag.n]; have := HMN.out; omega) HJ3.out.ag.one ⟨hep0, hep.out.2⟩ ⟨hx1, hx2⟩ ⟨hs.1, by omega⟩)
                  have HBO := Lib.hid ((Below.refl wr.heap.size wr).alloc (Nat.le_refl _) (.cells #[.int .i64 base, .int .i64 x, .int .i64 7, .int .i64 (ep - 1), .int .i64 seq, .slice none 0 0] 31))
                  go_wp2_with fail
                  with_reducible refine (check_v (HJ3.out.ag.po.later HBO.out) ⟨base, x, 7, ep - 1, seq⟩ none 0 0 HCO.out).mono ?_
                  rintro en w7 ⟨rfl, _, hb7⟩
                  have HJ4 := Lib.hid ((HJ3.out.later HBO.out).later hb7)
                  clear y0 y1 y2 y3 y4 y5 hb7 HBO HCO HJ3
                  go_wp2_with fail
                  go_roundw
                  case rel => exact ⟨k + 1, m, seq + x, base + x + k, T', some ⟨g', 0, none⟩, cap', G', rfl, rfl, rfl, by go_num, hkl, HJ4.out.ag⟩
                  case measure => simp [intOf]; omega
                · go_wp2_with fail
                  go_roundw
                  case rel => exact ⟨k + 1, m, seq + x, base + x + k, T', some ⟨g', 0, none⟩, cap', G', rfl, rfl, rfl, by go_num, hkl, HJ3.out.ag⟩
                  case measure => simp [intOf]; omega
        · have hbad : x < 1 ∨ (¬ x < 1 ∧ 50 < x) := by omega
          clear hx
          rcases hbad with h | ⟨h1, h2⟩
          all_goals
            go_wp2_with fail
            go_roundw
            case rel => exact ⟨k + 1, n, seq, base, T, A, c, G, rfl, rfl, rfl, by go_num, hkl, HI.out.bump⟩
            case measure => simp [intOf]; omega
      · have hke : ¬ (k : Int) < (len : Int) := by omega
        clear hkl
        go_wp2_with fail
        with_reducible refine (cl _).mono ?_
        rintro en w6 ⟨rfl, hb⟩
        have HP6 := Lib.hid (HI.out.po.later hb)
        clear hb HI
        go_wp2_with fail
        go_ret
        exact ⟨rfl, HP6.out.bel⟩
end Go.Proofs.Ytdhakekndinbeaa
