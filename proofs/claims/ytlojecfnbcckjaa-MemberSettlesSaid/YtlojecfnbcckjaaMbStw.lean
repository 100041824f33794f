/- member: MemberSettles, walked. No condition. -/
import Derived.Test.YtlojecfnbcckjaaMbSet
import Derived.Test.YtlojecfnbcckjaaMbOp
import Derived.BigQuiet
namespace Go.Proofs.Ytlojecfnbcckjaa
open Go.RowKit
set_option linter.unusedVariables false
/-- So many have joined. -/
def StA (T : List ByteArray) (k : Nat) (G : GD) : Prop := (k = 0 ∧ G = newG 100 100) ∨ (k = 1 ∧ G = stG1 T) ∨ (2 ≤ k ∧ StJ k G)
theorem StA.step {T : List ByteArray} {k : Nat} {G : GD} (hw : wantB T = true) (h : StA T k G) (hk : k < 20) : StA T (k + 1) (joinD (-1) T 1 G) ∧ joinE (-1) T 1 G = 0 ∧ joinM (-1) G = (k : Int) := by
  rcases h with ⟨rfl, rfl⟩ | ⟨rfl, rfl⟩ | ⟨h2, h⟩
  · exact ⟨.inr (.inl ⟨rfl, st1 hw⟩), st_e hw (by simp [newG]), rfl⟩
  · exact ⟨.inr (.inr ⟨by omega, st2 hw⟩), st_e hw (by simp [stG1]), rfl⟩
  · obtain ⟨a, b⟩ := st3 hw h hk
    exact ⟨.inr (.inr ⟨by omega, a⟩), b, h.nx⟩
/-- All have joined, or the first is still to join. -/
def StB (n i : Nat) (G : GD) : Prop := (i = 0 ∧ 2 ≤ n ∧ StJ n G) ∨ St2 n G
theorem StA.end_ {T : List ByteArray} {n : Nat} {G : GD} (h : StA T n G) (hn : 1 ≤ n) : StB n 0 G := by
  rcases h with ⟨rfl, rfl⟩ | ⟨rfl, rfl⟩ | ⟨h2, h⟩
  · omega
  · exact .inr (st5 T)
  · exact .inl ⟨rfl, h2, h⟩
theorem join_a {W w : World} {p : Nat} {k : Int} {G : GD} {T : List ByteArray} {TA PA : Option Addr} {P : List TX} (h : Gx W p k G w) (hk : k ≤ 999000) (hA : AOk W T TA P PA) (m now : Int) (c : Nat) :
    Calls Try.prog 10 #[.pointer (some ⟨p, 0, none⟩), .int .i64 m, .slice TA T.length c, .int .i64 now] w (fun en w' => en = .returned (.tuple #[.int .i64 (if joinE m T now G = 0 then joinM m G else 0), .int .i64 (joinE m T now G)]) ∧ Gx W p (k + 2) (joinD m T now G) w') := by
  obtain ⟨v, hv⟩ := h
  refine (join_v hv hk m now T TA c (hA.str.below hv.bel) hA.tl hA.tz (fun hp a ha hs => by
    obtain ⟨b, off, e, hlt, _⟩ := hA.str hp
    rw [e] at ha
    injection ha with ha
    have h1 := (hv.lt _ hs).1
    rw [← ha] at h1
    have h2 : W.heap.size ≤ b := h1
    omega)).mono ?_
  rintro en w' ⟨rfl, v', h1, _⟩
  exact ⟨rfl, v', h1⟩
theorem sync_a {W w : World} {p : Nat} {k : Int} {G : GD} {T : List ByteArray} {TA PA : Option Addr} {P : List TX} (h : Gx W p k G w) (hA : AOk W T TA P PA) (m gen now : Int) (c : Nat) (round : Bool) :
    Calls Try.prog 11 #[.pointer (some ⟨p, 0, none⟩), .int .i64 m, .int .i64 gen, .slice PA P.length c, .bool round, .int .i64 now] w (fun en w' => ∃ A n c, en = .returned (.tuple #[.slice A n c, .int .i64 (syncE m gen P now G)]) ∧ Gx W p k (syncD m gen P round now G) w') := by
  obtain ⟨v, hv⟩ := h
  refine (sync_v hv m gen now P PA c round (hA.top.below hv.bel) hA.pl hA.pz (fun hp a ha hs => by
    obtain ⟨b, off, e, hlt, _⟩ := hA.top hp
    rw [e] at ha
    injection ha with ha
    have h1 := (hv.lt _ hs).1
    rw [← ha] at h1
    have h2 : W.heap.size ≤ b := h1
    omega)).mono ?_
  rintro en w' ⟨A, c, rfl, _, v', h1, _⟩
  exact ⟨A, _, c, rfl, v', h1⟩
theorem mn4 {w : World} {b : Nat} {t : TypeId} {v0 v1 v2 v3 : Value} (h : Box w b t #[v0, v1, v2, v3]) : w.cell? ⟨b, 0, none⟩ = some v0 ∧ w.cell? ⟨b, 1, none⟩ = some v1 ∧ w.cell? ⟨b, 2, none⟩ = some v2 ∧ w.cell? ⟨b, 3, none⟩ = some v3 ∧ b < w.heap.size :=
  ⟨(h.cell 0).trans rfl, (h.cell 1).trans rfl, (h.cell 2).trans rfl, (h.cell 3).trans rfl, h.lt⟩
set_option maxHeartbeats 16000000 in
set_option maxRecDepth 100000 in
theorem memberSettles_walk (n0 : Int) (T : List ByteArray) (TA : Option Addr) (tc : Nat) (P : List TX) (PA : Option Addr) (pc : Nat) (rnd : Bool) (W : World) (hA : AOk W T TA P PA) : Calls Try.prog 6 #[.agg #[.int .i64 n0, .slice TA T.length tc, .slice PA P.length pc, .bool rnd]] W (Good W (.bool true)) := by
  have hB : Below W.heap.size W (W.alloc (.cells #[.int .i64 n0, .slice TA T.length tc, .slice PA P.length pc, .bool rnd] 58)) := (Below.refl _ _).alloc (Nat.le_refl _) _
  obtain ⟨x0, x1, x2, x3, xl⟩ := mn4 (Box.new W 58 #[.int .i64 n0, .slice TA T.length tc, .slice PA P.length pc, .bool rnd])
  have HA := Lib.hid hA
  have HB := Lib.hid hB
  clear hA hB
  by_cases hr1 : n0 < 1
  · go_enter Try.func6, Try.ntmps6
    go_wp2_with fail
    go_quiet (fail)
    go_wp2_with fail
    with_reducible refine (live15_c _).mono ?_
    rintro e w1 ⟨rfl, hb1⟩
    go_wp2_with fail
    go_ret
    exact ⟨rfl, (below_drewN HB.out _).trans (hb1.mono (below_drewN HB.out _).size)⟩
  by_cases hr2 : 10 < n0
  · go_enter Try.func6, Try.ntmps6
    go_wp2_with fail
    go_quiet (fail)
    go_wp2_with fail
    with_reducible refine (live15_c _).mono ?_
    rintro e w1 ⟨rfl, hb1⟩
    go_wp2_with fail
    go_ret
    exact ⟨rfl, (below_drewN HB.out _).trans (hb1.mono (below_drewN HB.out _).size)⟩
  obtain ⟨n, rfl⟩ : ∃ n : Nat, n0 = (n : Int) := ⟨n0.toNat, by omega⟩
  have HN : Hid (1 ≤ n ∧ n ≤ 10) := Lib.hid (by omega)
  have cn1 := fun w => new_ok 100 100 rfl w
  have fd0 := fieldV0
  go_enter Try.func6, Try.ntmps6
  go_wp2_with fail
  go_quiet (fail)
  have HB2 := Lib.hid (below_drewN HB.out nq)
  generalize hwa : (W.alloc (.cells #[.int .i64 n, .slice TA T.length tc, .slice PA P.length pc, .bool rnd] 58)).drewN nq = wa at *
  clear hwa x0 x1 x2 x3 xl HB
  go_wp2_with fail
  with_reducible refine (cn1 _).mono ?_
  rintro e w1 ⟨rfl, hw1⟩
  have H1 : Hid (Gx W wa.heap.size 0 (newG 100 100) w1) := Lib.hid (by rw [hw1]; exact ⟨_, GO.new HB2.out (by omega) (by omega)⟩)
  clear hw1 cn1 HB2
  generalize wa.heap.size = p at *
  go_wp2_with fail
  cases hw : wantB T with
  | false =>
    go_loopw [9] (fun j wr => j = .int .i64 0 ∧ Gx W p 0 (newG 100 100) wr) (fun _ _ => 0)
    case atStart => exact ⟨rfl, H1.out⟩
    case round =>
      obtain ⟨rfl, hG⟩ := hrel
      have hn := HN.out
      have j1 := join_a hG (by omega) HA.out (-1) 1 tc
      rw [st_no hw, if_neg (by decide)] at j1
      clear hG H1
      go_wp2_with fail
      with_reducible refine j1.mono ?_
      rintro e w2 ⟨rfl, H2⟩
      have HBx := Lib.hid H2.bel
      clear j1 H2
      go_wp2_with fail
      with_reducible refine (live15_c _).mono ?_
      rintro e w3 ⟨rfl, hb3⟩
      go_wp2_with fail
      go_ret
      exact ⟨rfl, HBx.out.trans (hb3.mono HBx.out.size)⟩
  | true =>
    have HW := Lib.hid hw
    clear hw
    go_loopw [9] (fun j wr => ∃ (k : Nat) (c : Int) (G : GD), j = .int .i64 k ∧ k ≤ n ∧ c ≤ 2 * k ∧ StA T k G ∧ Gx W p c G wr) (fun j _ => n - (intOf j).toNat)
    case atStart => exact ⟨0, 0, _, rfl, Nat.zero_le _, by omega, .inl ⟨rfl, rfl⟩, H1.out⟩
    case round =>
      obtain ⟨k, c, G, rfl, hkn, hc, hSt, hG⟩ := hrel
      have hn := HN.out
      clear H1
      by_cases hk : k < n
      · obtain ⟨hs1, hs2, hs3⟩ := hSt.step HW.out (by omega)
        have j1 := join_a hG (by omega) HA.out (-1) 1 tc
        rw [hs2, if_pos rfl, hs3] at j1
        have HS := Lib.hid hs1
        clear hG hSt hs1 hs2 hs3
        go_wp2_with fail
        with_reducible refine j1.mono ?_
        rintro e w2 ⟨rfl, H2⟩
        have H3 := Lib.hid H2
        clear j1 H2
        go_wp2_with fail
        go_roundw
        case rel => exact ⟨k + 1, c + 2, _, by go_num, hk, by omega, HS.out, H3.out⟩
        case measure => simp [intOf]; omega
      · have hkk : k = n := by omega
        subst hkk
        have HG := Lib.hid hG
        have HST := Lib.hid (hSt.end_ hn.1)
        clear hG hSt
        go_wp2_with fail
        go_loopw [12] (fun j wr => ∃ (i : Nat) (c : Int) (G : GD), j = .int .i64 i ∧ i ≤ k - 1 ∧ c ≤ 2 * k + 2 * i ∧ StB k i G ∧ Gx W p c G wr) (fun j _ => k - 1 - (intOf j).toNat)
        case atStart => exact ⟨0, c, G, rfl, Nat.zero_le _, by omega, HST.out, HG.out⟩
        case round =>
          obtain ⟨i, c, G, rfl, hik, hc, hSt, hG⟩ := hrel
          clear HST HG
          by_cases hi : i < k - 1
          · have V1 := view_x hG
            have HST := Lib.hid hSt
            clear hG hSt
            go_wp2_with fail
            with_reducible refine V1.mono ?_
            rintro e w4 ⟨A4, c4, rfl, H4, -, -⟩
            clear V1
            rcases HST.out with ⟨hi0, h2, hJ⟩ | h2
            · have hph : (G.ph == 1) = true := by rw [hJ.ph]; rfl
              subst hi0
              have j1 := join_a H4 (by omega) HA.out 0 2 tc
              have HS2 := Lib.hid (st4 HW.out hJ)
              clear H4 hJ HST
              go_wp2_with fail
              with_reducible refine j1.mono ?_
              rintro e w5 ⟨rfl, H5⟩
              have H6 := Lib.hid H5
              clear j1 H5
              go_wp2_with fail
              go_roundw
              case rel => exact ⟨1, c + 2, _, by go_num, by omega, by omega, .inr HS2.out, H6.out⟩
              case measure => simp [intOf]; omega
            · have hph : (G.ph == 1) = false := by rw [h2.ph]; rfl
              have HS2 := Lib.hid h2
              have H6 := Lib.hid H4
              clear H4 h2 HST
              go_wp2_with fail
              go_roundw
              case rel => exact ⟨i + 1, c, G, by go_num, by omega, by omega, .inr HS2.out, H6.out⟩
              case measure => simp [intOf]; omega
          · have hS2 : St2 k G := by
              rcases hSt with ⟨h0, h2, _⟩ | h2
              · omega
              · exact h2
            have hph : G.ph = 2 := hS2.ph
            obtain ⟨x, rest, hL, hx0, hlen⟩ := hS2.L
            have hLl : G.L.length = k := by rw [hL]; simpa using hlen
            have V1 := view_x hG
            rw [hph, hLl] at V1
            have HS2 := Lib.hid hS2
            clear hG hSt hS2 hL hlen hph hLl
            go_wp2_with fail
            with_reducible refine V1.mono ?_
            rintro e w4 ⟨A4, c4, rfl, H4, -, -⟩
            have hAl : Below w4.heap.size w4 (w4.alloc (.cells #[.int .i64 2, .int .i64 G.gn, .int .i64 G.nx, .int .i64 G.un, .slice A4 k c4] 38)) := (Below.refl _ _).alloc (Nat.le_refl _) _
            obtain ⟨⟨s0, s1, s2, s3, s4⟩, sl, _⟩ := vw5 (Box.new w4 38 #[.int .i64 2, .int .i64 G.gn, .int .i64 G.nx, .int .i64 G.un, .slice A4 k c4])
            have y1 := sync_a (H4.later hAl) HA.out 0 G.gn 3 pc rnd
            clear V1 H4 hAl
            rcases st6 HS2.out P rnd with hE | ⟨hE, hph⟩
            · rw [hE] at y1
              clear hE
              go_wp2_with fail
              with_reducible refine y1.mono ?_
              rintro e w5 ⟨A5, n5, c5, rfl, H5⟩
              have HBx := Lib.hid H5.bel
              clear y1 H5
              go_wp2_with fail
              with_reducible refine (live15_c _).mono ?_
              rintro e w6 ⟨rfl, hb6⟩
              go_wp2_with fail
              go_ret
              exact ⟨rfl, HBx.out.trans (hb6.mono HBx.out.size)⟩
            · rw [hE] at y1
              clear hE
              go_wp2_with fail
              with_reducible refine y1.mono ?_
              rintro e w5 ⟨A5, n5, c5, rfl, H5⟩
              have V5 := view_x H5
              rw [hph] at V5
              clear y1 H5 s0 s1 s2 s3 s4 sl hph
              go_wp2_with fail
              with_reducible refine V5.mono ?_
              rintro e w6 ⟨A6, c6, rfl, H6, -, -⟩
              have HBx := Lib.hid H6.bel
              clear V5 H6
              go_wp2_with fail
              with_reducible refine (live15_c _).mono ?_
              rintro e w7 ⟨rfl, hb7⟩
              go_wp2_with fail
              go_ret
              exact ⟨rfl, HBx.out.trans (hb7.mono HBx.out.size)⟩
end Go.Proofs.Ytlojecfnbcckjaa
