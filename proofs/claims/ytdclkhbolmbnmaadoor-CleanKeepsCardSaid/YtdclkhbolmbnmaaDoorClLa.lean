/- clean: whether a later record has the key, as the document asks it, by a contract. No condition but that they are not too many. -/
import Derived.Test.YtdclkhbolmbnmaaDoorClMn
import Derived.BigQuiet
import Derived.Deep.QuietTactic
namespace Go.Proofs.YtdclkhbolmbnmaaDoor
open Go.RowKit Go.Maps Go.ChangeMaps Go.WideMaps
set_option linter.unusedVariables false
/-- A record with the key, further on. -/
def Hit (L : List BX) (i j : Nat) (s : ByteArray) (n m : Nat) : Prop := ∃ x y, L[n]? = some x ∧ x.2.1[m]? = some y ∧ y.1.bare = false ∧ y.1.key = s ∧ (i < n ∨ (i = n ∧ j < m))
def LaterP (L : List BX) (i j : Nat) (s : ByteArray) : Prop := ∃ n m, Hit L i j s n m
structure LaS (W : World) (L : List BX) (i j : Nat) (s : ByteArray) (k : Nat) (w : World) : Prop where
  bel : Below W.heap.size W w
  none : ∀ n m, n < k → ¬ Hit L i j s n m
theorem LaS.start (W : World) (L : List BX) (i j : Nat) (s : ByteArray) : LaS W L i j s i W := ⟨Below.refl _ _, fun n m hn ⟨x, y, _, _, _, _, h⟩ => by omega⟩
def GotLa (W : World) (L : List BX) (i j : Nat) (s : ByteArray) (e : Ending) (w' : World) : Prop := ∃ b, e = .returned (.bool b) ∧ (b = true ↔ LaterP L i j s) ∧ Below W.heap.size W w'
set_option maxHeartbeats 16000000 in
set_option maxRecDepth 100000 in
theorem later_c (L : List BX) (A : Option Addr) (c : Nat) (W : World) (h : BsIn W A L) (hl : L.length ≤ 1000) (hr : ∀ x ∈ L, x.2.1.length ≤ 1000) (i j : Nat) (x : BX) (y : RX) (hx : L[i]? = some x) (hy : x.2.1[j]? = some y) :
    Calls Tryd.prog 25 #[.slice A L.length c, .int .i64 i, .int .i64 j] W (GotLa W L i j y.1.key) := by
  have hil := (List.getElem?_eq_some_iff.1 hx).1
  have hjl := (List.getElem?_eq_some_iff.1 hy).1
  have hjr := hr x (List.mem_of_getElem? hx)
  have HA := Lib.hid h
  have HR := Lib.hid hr
  obtain ⟨b, off, rfl, hbl, hca⟩ := h (by omega)
  obtain ⟨⟨z0, z1, z2, z3, z4, z5⟩, hrs⟩ := hca i x hx
  obtain ⟨b2, off2, e2, hbl2, hcb⟩ := hrs (by omega)
  obtain ⟨⟨q0, q1, q2, q3, q4, q5, q6⟩, hri⟩ := hcb j y hy
  rw [e2] at z5
  generalize hs : y.1.key = s at *
  have H0 : Hid (LaS W L i j s i W) := Lib.hid (LaS.start W L i j s)
  have hi0 : (0 : Int) ≤ (i : Int) := by omega
  have hj0 : (0 : Int) ≤ (j : Int) := by omega
  have hii : (i : Int) < (L.length : Int) := by omega
  have hjj : (j : Int) < (x.2.1.length : Int) := by omega
  have hj1 : j < 1000 := by omega
  generalize x.2.1.length = nx at *
  clear hr hca hrs hcb hri hx hy hs e2
  generalize hi6 : i * 6 = i6 at *
  generalize hj7 : j * 7 = j7 at *
  go_enter Tryd.func25, Tryd.ntmps25
  go_wp2_with fail
  clear z0 z1 z2 z3 z4 z5 q0 q1 q2 q3 q4 q5 q6 hbl2 hi6 hj7 hjj hjl hjr hii
  go_loopw [8] (fun v wr => ∃ k : Nat, v = .int .i64 k ∧ i ≤ k ∧ k ≤ L.length ∧ LaS W L i j s k wr) (fun v _ => L.length - (intOf v).toNat)
  case atStart => exact ⟨i, rfl, Nat.le_refl _, by omega, H0.out⟩
  case round =>
    obtain ⟨k, rfl, hik, hk, hS⟩ := hrel
    clear H0
    by_cases hkl : k < L.length
    · obtain ⟨x, hx⟩ : ∃ x, L[k]? = some x := ⟨_, List.getElem?_eq_getElem hkl⟩
      obtain ⟨_, _, e9, hbl9, hca⟩ := (HA.out.below hS.bel) (by omega)
      obtain ⟨rfl, rfl⟩ : b = _ ∧ off = _ := by injection e9 with e9; injection e9 with e91 e92; exact ⟨e91, e92⟩
      obtain ⟨⟨z0, z1, z2, z3, z4, z5⟩, hrs⟩ := hca k x hx
      have HRS := Lib.hid hrs
      have HXX := Lib.hid hx
      have HS := Lib.hid hS
      have hR := HR.out x (List.mem_of_getElem? hx)
      have hki : (k : Int) < (L.length : Int) := by omega
      have hk0 : (0 : Int) ≤ (k : Int) := by omega
      obtain ⟨bn, R, RA, rc⟩ := x
      dsimp only at *
      clear hS hca hx hrs e9 hbl
      have HB5 := Lib.hid (And.intro z5 hbl9)
      obtain ⟨f0, hf0, hf1⟩ : ∃ f0 : Nat, f0 = (if k = i then j + 1 else 0) ∧ f0 ≤ 1000 := ⟨_, rfl, by split <;> omega⟩
      have HF0 := Lib.hid hf0
      have HI : Hid (∀ m, m < f0 → ¬ Hit L i j s k m) := Lib.hid (fun m hm ⟨x', y', _, _, _, _, h6⟩ => by
        rw [hf0] at hm
        split at hm <;> omega)
      generalize hk6 : k * 6 = k6 at *
      have hrest : Hid True := Lib.hid trivial
      by_cases hkk : k = i
      · have hke : ((k : Int) == (i : Int)) = true := beq_iff_eq.2 (by omega)
        rw [if_pos hkk] at hf0
        subst hf0
        go_wp2_with fail
        have HKK := Lib.hid hkk
        clear z0 z1 z2 z3 z4 z5 hbl9 hke hkk
        go_loopw [10] (fun v w => ∃ m : Nat, v = .int .i64 m ∧ m ≤ 1000 ∧ (j + 1) ≤ m ∧ (∀ m', m' < m → ¬ Hit L i j s k m') ∧ Below wr.heap.size wr w) (fun v _ => R.length - (intOf v).toNat)
        case atStart => exact ⟨(j + 1), by go_num, by omega, Nat.le_refl _, HI.out, Below.refl _ _⟩
        case round =>
          obtain ⟨m, rfl, hm, hfm, hno, hbw⟩ := hrel
          have y5 := (hbw.cell (p := ⟨b, off + k6 + 5, none⟩) HB5.out.2).trans HB5.out.1
          have hl1 := Nat.lt_of_lt_of_le HB5.out.2 hbw.size
          have HNO := Lib.hid hno
          have HBW := Lib.hid hbw
          by_cases hml : m < R.length
          · obtain ⟨y, hy⟩ : ∃ y, R[m]? = some y := ⟨_, List.getElem?_eq_getElem hml⟩
            obtain ⟨b3, off3, rfl, hbl3, hc3⟩ := (HRS.out.below hbw) (by omega)
            obtain ⟨⟨p0, p1, p2, p3, p4, p5, p6⟩, _⟩ := hc3 m y hy
            have HY := Lib.hid hy
            have hmi : (m : Int) < (R.length : Int) := by omega
            have hm0 : (0 : Int) ≤ (m : Int) := by omega
            obtain ⟨⟨pl, tm, ba, ky, gn, va, hs⟩, hA2, hcc⟩ := y
            dsimp only at *
            have hal := hbw.alloc hbw.size (.cells #[.int .i64 pl, .int .i64 tm, .bool ba, .string ky, .bool gn, .string va, .slice hA2 hs.length hcc] 39)
            have HAL := Lib.hid hal
            clear hbw hc3 hy hno hal
            generalize hm7 : m * 7 = m7 at *
            have HNEXT : Hid ((ba = false → ky = s → False) → ∀ m', m' < m + 1 → ¬ Hit L i j s k m') := Lib.hid (fun hq m' hm' hh => by
              by_cases e : m' < m
              · exact HNO.out m' e hh
              · obtain ⟨x', y', h1, h2, h3, h4, _⟩ := hh
                have e2 : m' = m := by omega
                subst e2
                have e3 := HXX.out.symm.trans h1
                injection e3 with e3
                subst e3
                have e4 := HY.out.symm.trans h2
                injection e4 with e4
                subst e4
                exact hq h3 h4)
            cases ba with
            | true =>
              go_wp2_with fail
              go_roundw
              case rel => exact ⟨m + 1, by go_num, by omega, by omega, HNEXT.out (fun e => by cases e), HAL.out⟩
              case measure => simp [intOf]; omega
            | false =>
              by_cases hks : ky = s
              · have hse : (ky.toList == s.toList) = true := by rw [str_same]; exact decide_eq_true hks
                have HH : Hid (LaterP L i j s) := Lib.hid ⟨k, m, _, _, HXX.out, HY.out, rfl, hks, by have := HKK.out; omega⟩
                clear hks
                go_wp2_with fail
                go_ret
                exact ⟨true, rfl, ⟨fun _ => HH.out, fun _ => rfl⟩, HS.out.bel.trans (HAL.out.mono HS.out.bel.size)⟩
              · have hse : (ky.toList == s.toList) = false := by rw [str_same]; exact decide_eq_false hks
                have HQ := Lib.hid (HNEXT.out (fun _ e => hks e))
                clear hks
                go_wp2_with fail
                go_roundw
                case rel => exact ⟨m + 1, by go_num, by omega, by omega, HQ.out, HAL.out⟩
                case measure => simp [intOf]; omega
          · have hmi : ¬ (m : Int) < (R.length : Int) := by omega
            have hS2 : LaS W L i j s (k + 1) wr := ⟨HS.out.bel.trans (hbw.mono HS.out.bel.size), fun n m' hn hh => by
              by_cases e : n < k
              · exact HS.out.none n m' e hh
              · obtain ⟨x', y', h1, h2, h3, h4, h5⟩ := hh
                have e2 : n = k := by omega
                subst e2
                have e3 := HXX.out.symm.trans h1
                injection e3 with e3
                subst e3
                have := (List.getElem?_eq_some_iff.1 h2).1
                exact HNO.out m' (by have : m' < R.length := this; omega) ⟨_, y', HXX.out, h2, h3, h4, h5⟩⟩
            have HS2 := Lib.hid hS2
            clear hbw hno hS2
            go_wp2_with fail
            go_roundw
            case rel => exact ⟨k + 1, by go_num, by omega, hkl, HS2.out⟩
            case measure => simp [intOf]; omega
      · have hke : ((k : Int) == (i : Int)) = false := beq_eq_false_iff_ne.2 (by omega)
        rw [if_neg hkk] at hf0
        subst hf0
        go_wp2_with fail
        have HKK := Lib.hid hkk
        clear z0 z1 z2 z3 z4 z5 hbl9 hke hkk
        go_loopw [10] (fun v w => ∃ m : Nat, v = .int .i64 m ∧ m ≤ 1000 ∧ 0 ≤ m ∧ (∀ m', m' < m → ¬ Hit L i j s k m') ∧ Below wr.heap.size wr w) (fun v _ => R.length - (intOf v).toNat)
        case atStart => exact ⟨0, rfl, by omega, Nat.le_refl _, HI.out, Below.refl _ _⟩
        case round =>
          obtain ⟨m, rfl, hm, hfm, hno, hbw⟩ := hrel
          have y5 := (hbw.cell (p := ⟨b, off + k6 + 5, none⟩) HB5.out.2).trans HB5.out.1
          have hl1 := Nat.lt_of_lt_of_le HB5.out.2 hbw.size
          have HNO := Lib.hid hno
          have HBW := Lib.hid hbw
          by_cases hml : m < R.length
          · obtain ⟨y, hy⟩ : ∃ y, R[m]? = some y := ⟨_, List.getElem?_eq_getElem hml⟩
            obtain ⟨b3, off3, rfl, hbl3, hc3⟩ := (HRS.out.below hbw) (by omega)
            obtain ⟨⟨p0, p1, p2, p3, p4, p5, p6⟩, _⟩ := hc3 m y hy
            have HY := Lib.hid hy
            have hmi : (m : Int) < (R.length : Int) := by omega
            have hm0 : (0 : Int) ≤ (m : Int) := by omega
            obtain ⟨⟨pl, tm, ba, ky, gn, va, hs⟩, hA2, hcc⟩ := y
            dsimp only at *
            have hal := hbw.alloc hbw.size (.cells #[.int .i64 pl, .int .i64 tm, .bool ba, .string ky, .bool gn, .string va, .slice hA2 hs.length hcc] 39)
            have HAL := Lib.hid hal
            clear hbw hc3 hy hno hal
            generalize hm7 : m * 7 = m7 at *
            have HNEXT : Hid ((ba = false → ky = s → False) → ∀ m', m' < m + 1 → ¬ Hit L i j s k m') := Lib.hid (fun hq m' hm' hh => by
              by_cases e : m' < m
              · exact HNO.out m' e hh
              · obtain ⟨x', y', h1, h2, h3, h4, _⟩ := hh
                have e2 : m' = m := by omega
                subst e2
                have e3 := HXX.out.symm.trans h1
                injection e3 with e3
                subst e3
                have e4 := HY.out.symm.trans h2
                injection e4 with e4
                subst e4
                exact hq h3 h4)
            cases ba with
            | true =>
              go_wp2_with fail
              go_roundw
              case rel => exact ⟨m + 1, by go_num, by omega, by omega, HNEXT.out (fun e => by cases e), HAL.out⟩
              case measure => simp [intOf]; omega
            | false =>
              by_cases hks : ky = s
              · have hse : (ky.toList == s.toList) = true := by rw [str_same]; exact decide_eq_true hks
                have HH : Hid (LaterP L i j s) := Lib.hid ⟨k, m, _, _, HXX.out, HY.out, rfl, hks, by have := HKK.out; omega⟩
                clear hks
                go_wp2_with fail
                go_ret
                exact ⟨true, rfl, ⟨fun _ => HH.out, fun _ => rfl⟩, HS.out.bel.trans (HAL.out.mono HS.out.bel.size)⟩
              · have hse : (ky.toList == s.toList) = false := by rw [str_same]; exact decide_eq_false hks
                have HQ := Lib.hid (HNEXT.out (fun _ e => hks e))
                clear hks
                go_wp2_with fail
                go_roundw
                case rel => exact ⟨m + 1, by go_num, by omega, by omega, HQ.out, HAL.out⟩
                case measure => simp [intOf]; omega
          · have hmi : ¬ (m : Int) < (R.length : Int) := by omega
            have hS2 : LaS W L i j s (k + 1) wr := ⟨HS.out.bel.trans (hbw.mono HS.out.bel.size), fun n m' hn hh => by
              by_cases e : n < k
              · exact HS.out.none n m' e hh
              · obtain ⟨x', y', h1, h2, h3, h4, h5⟩ := hh
                have e2 : n = k := by omega
                subst e2
                have e3 := HXX.out.symm.trans h1
                injection e3 with e3
                subst e3
                have := (List.getElem?_eq_some_iff.1 h2).1
                exact HNO.out m' (by have : m' < R.length := this; omega) ⟨_, y', HXX.out, h2, h3, h4, h5⟩⟩
            have HS2 := Lib.hid hS2
            clear hbw hno hS2
            go_wp2_with fail
            go_roundw
            case rel => exact ⟨k + 1, by go_num, by omega, hkl, HS2.out⟩
            case measure => simp [intOf]; omega
    · have hki : ¬ (k : Int) < (L.length : Int) := by omega
      have hno : ¬ LaterP L i j s := fun ⟨n, m, h⟩ => by
        have h' := h
        obtain ⟨x', y', h1, _⟩ := h'
        have := (List.getElem?_eq_some_iff.1 h1).1
        exact hS.none n m (by omega) h
      have HN := Lib.hid (And.intro hno hS.bel)
      clear hS hno
      go_wp2_with fail
      go_ret
      exact ⟨false, rfl, ⟨fun e => (by cases e), fun h => absurd h HN.out.1⟩, HN.out.2⟩
end Go.Proofs.YtdclkhbolmbnmaaDoor
