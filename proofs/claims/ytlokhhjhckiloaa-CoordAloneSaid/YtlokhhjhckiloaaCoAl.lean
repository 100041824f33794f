/- coord: CoordAlone, walked. No condition. -/
import Derived.Test.YtlokhhjhckiloaaCoAd
import Derived.BigQuiet
namespace Go.Proofs.Ytlokhhjhckiloaa
open Go.RowKit
set_option linter.unusedVariables false
def stA (g : Option GD) : List UInt8 → Option GD := putSt (fun _ => none) gB.data.toList g
theorem stA_put (g g' : Option GD) (s : List UInt8) : putSt (stA g) gB.data.toList g' s = stA g' s := by
  unfold stA putSt
  split <;> rfl
theorem stA_at (g : Option GD) : stA g gB.data.toList = g := by unfold stA putSt; rw [if_pos rfl]
set_option maxHeartbeats 16000000 in
set_option maxRecDepth 100000 in
theorem coordAlone_walk (n0 : Int) (W : World) (_h0 : (Lit.int .i64 n0).wf = true) : Calls Try.prog 4 #[.int .i64 n0] W (Good W (.bool true)) := by
  clear _h0
  by_cases hr1 : n0 < 1
  · go_enter Try.func4, Try.ntmps4
    go_wp2_with fail
    with_reducible refine (live17_c _).mono ?_
    rintro e w1 ⟨rfl, hb1⟩
    go_wp2_with fail
    go_ret
    exact ⟨rfl, hb1⟩
  by_cases hr2 : 10 < n0
  · go_enter Try.func4, Try.ntmps4
    go_wp2_with fail
    with_reducible refine (live17_c _).mono ?_
    rintro e w1 ⟨rfl, hb1⟩
    go_wp2_with fail
    go_ret
    exact ⟨rfl, hb1⟩
  obtain ⟨n, rfl⟩ : ∃ n : Nat, n0 = (n : Int) := ⟨n0.toNat, by omega⟩
  have HN : Hid (1 ≤ n ∧ n ≤ 10) := Lib.hid (by omega)
  have cn1 := cnew_ok 100 100 (by omega) (by omega) W W (Below.refl _ _)
  have fd0 := fieldV0
  go_enter Try.func4, Try.ntmps4
  go_wp2_with fail
  with_reducible refine cn1.mono ?_
  rintro e w1 ⟨p, rfl, hC⟩
  have H1 : Hid (Cx W p 0 100 100 (stA none) 0 [] w1) := Lib.hid (hC.eq (fun s => by unfold stA putSt; split <;> rfl))
  clear cn1 hC
  have k1 := may_x H1.out gB (by decide) (-1) (-1)
  rw [stA_at, show mayCE none (-1) (-1) = 0 from rfl] at k1
  unfold gB at k1
  go_wp2_with fail
  with_reducible refine k1.mono ?_
  rintro e w2 ⟨rfl, hb⟩
  have H2 := Lib.hid (H1.out.later hb)
  clear k1 hb H1
  go_wp2_with fail
  go_loopw [5] (fun j wr => ∃ (k n' : Nat) (cc : Int) (g : Option GD), j = .int .i64 k ∧ k ≤ n ∧ n' ≤ k ∧ 0 ≤ cc ∧ cc ≤ 2 * k ∧ AlJ k g ∧ Cx W p cc 100 100 (stA g) n' [] wr) (fun j _ => n - (intOf j).toNat)
  case atStart => exact ⟨0, 0, 0, none, rfl, Nat.zero_le _, Nat.le_refl _, by omega, by omega, .inl ⟨rfl, rfl⟩, H2.out⟩
  case round =>
    obtain ⟨k, n', cc, g, rfl, hkn, hnk, hc0, hc1, hJ, hC⟩ := hrel
    have hn := HN.out
    clear H2
    by_cases hk : k < n
    · obtain ⟨hE, hM, hJ2⟩ := hJ.join (by omega)
      have cj := join_x hC ⟨hc0, by omega⟩ gB ⟨by decide, by decide⟩ (.inr (by omega)) (-1) 1 [] none 0 (StrIn.nil _ _) (by simp) (fun s hs => by cases hs) (fun hp => absurd hp (by simp))
      rw [stA_at, hE, hM, show ([] : List ByteArray).length = 0 from rfl] at cj
      unfold gB at cj
      have hmay := hJ2.may
      rw [if_neg (by omega)] at hmay
      have HJ2 := Lib.hid hJ2
      have HM2 := Lib.hid hmay
      have HK := Lib.hid (And.intro hnk (And.intro hc0 hc1))
      generalize joinD (-1) [] 1 (g.getD (newG 100 100)) = G2 at *
      clear hJ hC hJ2 hmay hnk hc0 hc1 hE hM
      have hki : (k : Int) < (n : Int) := by omega
      go_wp2_with fail
      with_reducible refine cj.mono ?_
      rintro en w3 ⟨a, b, d, e, rfl, he, _, h0⟩
      subst he
      obtain ⟨rfl, hb, hd, n2, hn2, hC3⟩ := h0 rfl
      clear h0 cj
      have hA3 : Below w3.heap.size w3 (w3.alloc (.cells #[.int .i64 k, .int .i64 b, .int .i64 d] 28)) := (Below.refl _ _).alloc (Nat.le_refl _) _
      have hC3' : Cx W p (cc + 2) 100 100 (stA (some G2)) n2 [] w3 := hC3.eq (fun s => stA_put g (some G2) s)
      have HC3 := Lib.hid (hC3'.later hA3)
      obtain ⟨r0, r1, r2, rl, _⟩ := jn3 (Box.new w3 28 #[.int .i64 k, .int .i64 b, .int .i64 d])
      have km := may_x HC3.out gB (by decide) (-1) (-1)
      rw [stA_at, HM2.out] at km
      unfold gB at km
      clear hA3 hC3 hC3' hb hd
      go_wp2_with fail
      with_reducible refine km.mono ?_
      rintro en w4 ⟨rfl, hb4⟩
      have HC4 := Lib.hid (HC3.out.later hb4)
      have HN2 := Lib.hid hn2
      clear km hb4 HC3 r0 r1 r2 rl hn2
      go_wp2_with fail
      go_roundw
      case rel => exact ⟨k + 1, n2, cc + 2, some G2, by go_num, hk, by have := HK.out; have := HN2.out; omega, by have := HK.out; omega, by have := HK.out; omega, HJ2.out, HC4.out⟩
      case measure => simp [intOf]; omega
    · have hkk : k = n := by omega
      subst hkk
      have HL := Lib.hid (hJ.turn (by omega))
      have HC := Lib.hid hC
      have HK := Lib.hid hc1
      have hki : ¬ (k : Int) < (k : Int) := by omega
      clear hJ hC hc0 hc1 hnk
      go_wp2_with fail
      go_loopw [8] (fun j wr => ∃ (i : Nat) (cc : Int) (g : Option GD), j = .int .i64 i ∧ i ≤ k ∧ cc ≤ 2 * k + i ∧ AlL k i g ∧ Cx W p cc 100 100 (stA g) n' [] wr) (fun j _ => k - (intOf j).toNat)
      case atStart => exact ⟨0, cc, g, rfl, Nat.zero_le _, by have := HK.out; omega, HL.out, HC.out⟩
      case round =>
        clear HC HL
        obtain ⟨i, c9, g9, rfl, hik, hc9, hL, hC⟩ := hrel
        by_cases hi : i < k
        · have hm := (hL.may).1 hi
          obtain ⟨hle, hL2⟩ := hL.leave hi
          have km := may_x hC gB (by decide) (-1) (-1)
          rw [stA_at, hm] at km
          unfold gB at km
          have HC := Lib.hid hC
          have HL2 := Lib.hid hL2
          have HLE := Lib.hid hle
          have hii : (i : Int) < (k : Int) := by omega
          clear hm hle hL hL2 hC
          go_wp2_with fail
          with_reducible refine km.mono ?_
          rintro en w4 ⟨rfl, hb4⟩
          have kl := leave_x (HC.out.later hb4) (by omega) gB (by decide) (i : Int) 2
          rw [stA_at, HLE.out] at kl
          unfold gB at kl
          clear km hb4 HC
          go_wp2_with fail
          with_reducible refine kl.mono ?_
          rintro en w5 ⟨rfl, hC5⟩
          have HC5 : Hid (Cx W p (c9 + 1) 100 100 (stA (g9.map (leaveD (i : Int) 2))) n' [] w5) := Lib.hid (hC5.eq (fun s => stA_put g9 _ s))
          clear kl hC5
          go_wp2_with fail
          go_roundw
          case rel => exact ⟨i + 1, c9 + 1, _, by go_num, hi, by omega, HL2.out, HC5.out⟩
          case measure => simp [intOf]; omega
        · have hii : i = k := by omega
          subst hii
          obtain ⟨hm, hp⟩ := (hL.may).2 (Nat.le_refl _)
          have km := may_x hC gB (by decide) (-1) (-1)
          rw [stA_at, hm] at km
          unfold gB at km
          have HC := Lib.hid hC
          have HP := Lib.hid hp
          have hii' : ¬ (i : Int) < (i : Int) := by omega
          clear hm hp hL hC
          go_wp2_with fail
          with_reducible refine km.mono ?_
          rintro en w4 ⟨rfl, hb4⟩
          have kg := group_x (HC.out.later hb4) gB (by decide)
          rw [stA_at, HP.out] at kg
          unfold gB at kg
          have HB4 := Lib.hid ((HC.out.later hb4).bel)
          clear km hb4 HC
          go_wp2_with fail
          with_reducible refine kg.mono ?_
          rintro en w5 ⟨v5, R5, rfl, hr5, _, _, hb5⟩
          obtain ⟨A5, n5, rfl⟩ := own_slice hr5
          have HB5 := Lib.hid (HB4.out.trans (hb5.mono HB4.out.size))
          clear kg hr5 hb5
          go_wp2_with fail
          with_reducible refine (live17_c _).mono ?_
          rintro en w6 ⟨rfl, hb6⟩
          go_wp2_with fail
          go_ret
          exact ⟨rfl, HB5.out.trans (hb6.mono HB5.out.size)⟩
end Go.Proofs.Ytlokhhjhckiloaa
