/- coord: CoordMany, walked. No condition. -/
import Derived.Test.YtlokhhjhckiloaaCoAd
import Derived.Test.YtlokhhjhckiloaaCoNms
import Derived.BigQuiet
namespace Go.Proofs.Ytlokhhjhckiloaa
open Go.RowKit Go.Maps Go.ChangeMaps Go.WideMaps
set_option linter.unusedVariables false
section
variable {W w w' : World} {p : Nat} {k ss rb : Int} {st : List UInt8 → Option GD} {n : Nat} {O : List Of.KE}
theorem ofN_gv {F : List CE} {D : Nat → GD} {s : List UInt8} (h : gv F D s = none) : ofN F s = none := by
  unfold gv at h
  cases hf : ofN F s with
  | none => rfl
  | some e => rw [hf] at h; cases h
/-- Join by one whose group is not there. -/
theorem join_y (h : Cx W p k ss rb st n O w) (hk : 0 ≤ k ∧ k ≤ 999000) (s : ByteArray) (hs : 1 ≤ s.size ∧ s.size ≤ 100) (hn : st s.data.toList = none) :
    Calls Try.prog 7 #[.pointer (some ⟨p, 0, none⟩), .string s, .int .i64 (-1), .slice none 0 0, .int .i64 1] w (fun en w' => ∃ a b d e : Int, en = .returned (.tuple #[.agg #[.int .i64 a, .int .i64 b, .int .i64 d], .int .i64 e]) ∧ e = (if n < 20 then 0 else 5) ∧
      ∃ g, Cx W p (k + 2) ss rb (putSt st s.data.toList g) (if n < 20 then n + 1 else n) O w') := by
  obtain ⟨g, o, og, F, V, D, h, h1, h2⟩ := h
  have hc := cjoin_c h hk s (by omega) (-1) 1 [] none 0 (StrIn.nil _ _) (by simp) (fun s hs => by cases hs) (fun hp => absurd hp (by simp))
  have hgv : gv F D s.data.toList = none := (h1 _).trans hn
  have hE : joE s (-1) [] 1 F D ss rb = if n < 20 then 0 else 5 := by
    unfold joE
    rw [if_neg (by omega), hgv]
    show (if 20 ≤ F.length then (5 : Int) else joinE (-1) [] 1 (newG ss rb)) = _
    by_cases h3 : n < 20
    · rw [if_neg (by omega), if_pos h3, join_e0 (by show (0 : Nat) < 20; omega)]
    · rw [if_pos (by omega), if_neg h3]
  refine hc.mono ?_
  rintro en w' (⟨e1, rfl, V', D', hc, hg⟩ | ⟨e1, F', V', D', rfl, hc, hg, hl⟩)
  · have h3 : ¬ n < 20 := fun h => e1 (by rw [hE, if_pos h])
    refine ⟨0, 0, 0, _, rfl, hE, none, g, o, og, F, V', D', hc, fun x => ?_, by rw [if_neg h3]; exact h2⟩
    rw [hg x, h1 x]
    unfold putSt
    split
    · rename_i hx; rw [hx, hn]
    · rfl
  · have h3 : n < 20 := by
      rw [hE] at e1
      split at e1
      · assumption
      · cases e1
    refine ⟨_, _, _, 0, rfl, by rw [← hE, e1], some (joinD (-1) [] 1 (joG s F D ss rb)), g, o, og, F', V', D', hc, fun x => ?_, ?_⟩
    · rw [hg x]
      unfold putSt
      split
      · rfl
      · exact h1 x
    · rw [if_pos h3, hl]
      unfold putC
      rw [insC_len, minC_none (ofN_gv hgv), h2]
/-- Names: as many as there are groups. -/
theorem names_x (h : Cx W p k ss rb st n O w) : Calls Try.prog 8 #[.pointer (some ⟨p, 0, none⟩)] w (fun en w' => ∃ A c, en = .returned (.slice A n c) ∧ Below w.heap.size w w') := by
  obtain ⟨g, o, og, F, V, D, h, h1, h2⟩ := h
  refine (cnames_c w h.is h.nm (by have := h.few; omega)).mono ?_
  rintro en w' ⟨v, rfl, hr, hb⟩
  obtain ⟨A, c, rfl⟩ := own_slice hr
  rw [h2]
  exact ⟨A, c, rfl, hb⟩
end
def nmM (i : Nat) : ByteArray := ⟨[103, UInt8.ofNat i].toArray⟩
theorem nmM_size (i : Nat) : (nmM i).size = 2 := rfl
theorem nmM_ne {i j : Nat} (hi : i < 256) (hj : j < 256) (h : i ≠ j) : (nmM j).data.toList ≠ (nmM i).data.toList := by
  intro e
  have e1 : ([103, UInt8.ofNat j] : List UInt8) = [103, UInt8.ofNat i] := e
  injection e1 with _ e1
  injection e1 with e1 _
  have e2 := congrArg UInt8.toNat e1
  simp [UInt8.toNat_ofNat'] at e2
  omega
theorem conv_nm (i : Nat) (hi : i < 256) (w : World) : (convert 31 9 (.slice (some ⟨w.heap.size, 0, none⟩) 2 2)).run Try.prog (w.alloc (.cells #[.int .u8 103, .int .u8 i] 5)) = .ok (.string (nmM i)) (w.alloc (.cells #[.int .u8 103, .int .u8 i] 5)) := by
  have hb := Box.new w 5 #[.int .u8 103, .int .u8 (i : Int)]
  refine run_convert_bytes_back _ 31 9 5 ⟨w.heap.size, 0, none⟩ 2 [103, UInt8.ofNat i] Try.underlying31 Try.underlying5 Try.underlying9 (fun j hj => ?_)
  match j, hj with
  | 0, _ => exact (hb.cell 0).trans rfl
  | 1, _ =>
    refine (hb.cell 1).trans ?_
    show some (Value.int .u8 (i : Int)) = some (.int .u8 ((UInt8.ofNat i).toNat : Int))
    rw [UInt8.toNat_ofNat', Nat.mod_eq_of_lt hi]
set_option maxHeartbeats 16000000 in
set_option maxRecDepth 100000 in
theorem coordMany_walk (n0 : Int) (W : World) (_h0 : (Lit.int .i64 n0).wf = true) : Calls Try.prog 3 #[.int .i64 n0] W (Good W (.bool true)) := by
  clear _h0
  by_cases hr1 : n0 < 0
  · go_enter Try.func3, Try.ntmps3
    go_wp2_with fail
    with_reducible refine (live17_c _).mono ?_
    rintro e w1 ⟨rfl, hb1⟩
    go_wp2_with fail
    go_ret
    exact ⟨rfl, hb1⟩
  by_cases hr2 : 30 < n0
  · go_enter Try.func3, Try.ntmps3
    go_wp2_with fail
    with_reducible refine (live17_c _).mono ?_
    rintro e w1 ⟨rfl, hb1⟩
    go_wp2_with fail
    go_ret
    exact ⟨rfl, hb1⟩
  obtain ⟨n, rfl⟩ : ∃ n : Nat, n0 = (n : Int) := ⟨n0.toNat, by omega⟩
  have HN : Hid (n ≤ 30) := Lib.hid (by omega)
  have cn1 := cnew_ok 10 10 (by omega) (by omega) W W (Below.refl _ _)
  have fd0 := fieldV0
  go_enter Try.func3, Try.ntmps3
  go_wp2_with fail
  with_reducible refine cn1.mono ?_
  rintro e w1 ⟨p, rfl, hC⟩
  have H1 := Lib.hid hC
  clear cn1 hC
  go_wp2_with fail
  go_loopw [5] (fun j wr => ∃ (i : Nat) (cc : Int) (st : List UInt8 → Option GD), j = .int .i64 i ∧ i ≤ n ∧ 0 ≤ cc ∧ cc ≤ 2 * i ∧ (∀ j, i ≤ j → j < 256 → st (nmM j).data.toList = none) ∧ Cx W p cc 10 10 st (min i 20) [] wr) (fun j _ => n - (intOf j).toNat)
  case atStart => exact ⟨0, 0, _, rfl, Nat.zero_le _, by omega, by omega, fun _ _ _ => rfl, H1.out⟩
  case round =>
    obtain ⟨i, cc, st, rfl, hin, hc0, hc1, hst, hC⟩ := hrel
    clear H1
    have hn := HN.out
    by_cases hi : i < n
    · have kc := conv_nm i (by omega)
      have cj := fun w (hb : Below wr.heap.size wr w) => join_y (hC.later hb) ⟨hc0, by omega⟩ (nmM i) (by rw [nmM_size]; omega) (hst i (Nat.le_refl _) (by omega))
      go_wp2_with fail
      have hb1 : Below wr.heap.size wr (wr.alloc (.cells #[.int .u8 103, .int .u8 i] 5)) := (Below.refl _ _).alloc (Nat.le_refl _) _
      with_reducible refine (cj _ hb1).mono ?_
      rintro en w3 ⟨a, b, d, e, rfl, he, g3, hC3⟩
      have hA3 : Below w3.heap.size w3 (w3.alloc (.cells #[.int .i64 a, .int .i64 b, .int .i64 d] 28)) := (Below.refl _ _).alloc (Nat.le_refl _) _
      have HC3 := Lib.hid (hC3.later hA3)
      have HST : Hid (∀ j, i + 1 ≤ j → j < 256 → putSt st (nmM i).data.toList g3 (nmM j).data.toList = none) := Lib.hid (fun j hj hj2 => by
        unfold putSt
        rw [if_neg (nmM_ne (by omega) hj2 (by omega)), hst j (by omega) hj2])
      have HM : Hid ((if min i 20 < 20 then min i 20 + 1 else min i 20) = min (i + 1) 20) := Lib.hid (by split <;> omega)
      have HCC := Lib.hid (And.intro hc0 hc1)
      obtain ⟨r0, r1, r2, rl, _⟩ := jn3 (Box.new w3 28 #[.int .i64 a, .int .i64 b, .int .i64 d])
      clear cj kc hst hC hC3 hA3 hb1 hc0 hc1
      by_cases h20 : i < 20
      · rw [if_pos (by omega)] at he
        subst he
        have hki : (i : Int) < 20 := by omega
        go_wp2_with fail
        go_roundw
        case rel => exact ⟨i + 1, cc + 2, _, by go_num, hi, by have := HCC.out; omega, by have := HCC.out; omega, HST.out, by have := HC3.out; rwa [HM.out] at this⟩
        case measure => simp [intOf]; omega
      · rw [if_neg (by omega)] at he
        subst he
        have hki : ¬ (i : Int) < 20 := by omega
        go_wp2_with fail
        go_roundw
        case rel => exact ⟨i + 1, cc + 2, _, by go_num, hi, by have := HCC.out; omega, by have := HCC.out; omega, HST.out, by have := HC3.out; rwa [HM.out] at this⟩
        case measure => simp [intOf]; omega
    · have hii : i = n := by omega
      subst hii
      have cn := names_x hC
      have HC := Lib.hid hC
      have hki : ¬ (i : Int) < (i : Int) := by omega
      clear hC hst hc0 hc1
      go_wp2_with fail
      with_reducible refine cn.mono ?_
      rintro en w4 ⟨A, c, rfl, hb⟩
      have HB := Lib.hid (HC.out.bel.trans (hb.mono HC.out.bel.size))
      clear cn hb
      by_cases h20 : i ≤ 20
      · rw [Nat.min_eq_left h20]
        have hmi : min (i : Int) 20 = (i : Int) := by omega
        go_wp2_with fail
        with_reducible refine (live17_c _).mono ?_
        rintro en w6 ⟨rfl, hb6⟩
        go_wp2_with fail
        go_ret
        exact ⟨rfl, HB.out.trans (hb6.mono HB.out.size)⟩
      · rw [Nat.min_eq_right (by omega)]
        have hmi : min (i : Int) 20 = 20 := by omega
        go_wp2_with fail
        with_reducible refine (live17_c _).mono ?_
        rintro en w6 ⟨rfl, hb6⟩
        go_wp2_with fail
        go_ret
        exact ⟨rfl, HB.out.trans (hb6.mono HB.out.size)⟩
end Go.Proofs.Ytlokhhjhckiloaa
