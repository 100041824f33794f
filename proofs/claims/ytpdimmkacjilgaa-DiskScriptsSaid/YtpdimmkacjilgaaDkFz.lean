/- The walk of DiskFuse. No condition. -/
import Derived.Test.YtpdimmkacjilgaaDkSafe
namespace Go.Proofs.Ytpdimmkacjilgaa
open Go.RowKit Go.Maps Go.ChangeMaps Go.WideMaps Go.Shelf
set_option linter.unusedVariables false
theorem names_down (p : Nat) (a : Ab) (S : Nat → Prop) (W : World) (h : Is W p a S) (hu : upA a = false) : Calls Try.prog 21 #[dp p] W (Tells W (.slice none 0 0)) := by
  have hc := up_do p a S W h
  rw [hu] at hc
  clear h hu
  unfold dp at *
  go_enter Try.func21, Try.ntmps21
  go_wp2_with fail
  (with_reducible refine hc.mono ?_)
  rintro en w1 ⟨rfl, rfl⟩
  go_wp2
  go_ret
  exact ⟨rfl, rfl⟩
theorem keep_one (w : World) (t : TypeId) (S : Nat → Prop) (hS : ¬ S w.heap.size) (x : Int) (h0 : -9223372036854775808 ≤ x) (h1 : x ≤ 9223372036854775807) : KeepIn (w.alloc (.cells #[.int .i64 x] t)) S (some ⟨w.heap.size, 0, none⟩) 1 [x] := by
  refine ⟨fun n hn => ?_, fun _ => ⟨w.heap.size, 0, rfl, by simp, hS, fun j hj => ?_⟩⟩
  · have : n = x := by simpa using hn
    omega
  · have : j = 0 := by simp at hj; omega
    subst this
    exact ((Box.new w t #[.int .i64 x]).cell 0).trans rfl
/-- The disk behind i appends with a fuse of n. -/
def fz (n i : Nat) : Ab := ⟨1000, true, ((n - min i n : Nat) : Int), if min i n = 0 then [] else [([97], List.replicate (min i n) 120, 0)]⟩
theorem fz_len (n i : Nat) : (fz n i).L.length ≤ 1 := by unfold fz; simp only; split <;> simp
theorem fz_tot (n i : Nat) : totL (fz n i).L = min i n := by
  unfold fz totL
  simp only
  split
  · rename_i h; rw [h]; rfl
  · simp
theorem fz_go {n i : Nat} (h : i < n) (hn : n ≤ 40) : appE (fz n i) ⟨#[97]⟩ ⟨#[120]⟩ = 0 ∧ appA (fz n i) ⟨#[97]⟩ ⟨#[120]⟩ = fz n (i + 1) := by
  have h1 : min i n = i := by omega
  have h2 : min (i + 1) n = i + 1 := by omega
  have hup : upA (fz n i) = true := by
    unfold upA fz
    simp only [h1, Bool.not_true, Bool.false_or, decide_eq_true_eq]
    omega
  obtain ⟨e1, e2⟩ := app_ok (a := fz n i) (n := ⟨#[97]⟩) (s := ⟨#[120]⟩) hup rfl (by
    rw [fz_tot, h1]
    show (i : Int) + 1 ≤ 1000
    omega)
  refine ⟨e1, e2.trans ?_⟩
  unfold fz chgA
  rw [h1, h2]
  simp only [if_true, Nat.add_one_ne_zero, if_false]
  have h3 : ((n - i : Nat) : Int) - 1 = ((n - (i + 1) : Nat) : Int) := by omega
  rw [h3]
  congr 1
  cases i with
  | zero => rfl
  | succ j =>
    rw [if_neg (by omega)]
    show [(([97] : List UInt8), List.replicate (j + 1) (120 : UInt8) ++ [120], 0)] = [([97], List.replicate (j + 1 + 1) 120, 0)]
    rw [List.replicate_succ' (n := j + 1)]
theorem fz_stop {n i : Nat} (h : ¬ i < n) : appE (fz n i) ⟨#[97]⟩ ⟨#[120]⟩ = 7 ∧ appA (fz n i) ⟨#[97]⟩ ⟨#[120]⟩ = fz n (i + 1) := by
  have h1 : min i n = n := by omega
  have h2 : min (i + 1) n = n := by omega
  have hup : upA (fz n i) = false := by unfold upA fz; rw [h1]; simp
  have e : appE (fz n i) ⟨#[97]⟩ ⟨#[120]⟩ = 7 := by unfold appE; rw [hup]; rfl
  refine ⟨e, ?_⟩
  unfold appA
  rw [e]
  unfold fz
  rw [h1, h2]
  rfl
theorem fz_down {n : Nat} (hn : n ≤ 40) : upA (fz n 50) = false := by
  have h1 : min 50 n = n := by omega
  unfold upA fz
  rw [h1]
  simp
/-- Crashed, and one byte more. -/
theorem fz_end {n : Nat} (hn : n ≤ 40) : (crashA (fz n 50) [1000]).L.length ≤ 1 ∧ appE (crashA (fz n 50) [1000]) ⟨#[97]⟩ ⟨#[121]⟩ = 0 ∧ ∃ b k, b.length = n + 1 ∧ appA (crashA (fz n 50) [1000]) ⟨#[97]⟩ ⟨#[121]⟩ = ⟨1000, false, 0, [([97], b, k)]⟩ := by
  have h1 : min 50 n = n := by omega
  have hc : crashA (fz n 50) [1000] = ⟨1000, false, 0, if n = 0 then [] else [([97], List.replicate n 120, n)]⟩ := by
    unfold crashA fz
    rw [h1]
    cases n with
    | zero => rfl
    | succ m =>
      simp only [Nat.add_one_ne_zero, if_false, tearL, List.length_replicate]
      have hk : keptOf [1000] 0 (m + 1 - 0) = m + 1 := by
        unfold keptOf
        rw [if_pos (by decide)]
        show (min (max (1000 : Int) 0) ((m + 1 - 0 : Nat) : Int)).toNat = m + 1
        omega
      rw [hk]
      simp
  rw [hc]
  cases n with
  | zero => exact ⟨by decide, rfl, [121], 0, rfl, rfl⟩
  | succ m =>
    rw [if_neg (by omega)]
    obtain ⟨e1, e2⟩ := app_ok (a := ⟨1000, false, 0, [([97], List.replicate (m + 1) 120, m + 1)]⟩) (n := ⟨#[97]⟩) (s := ⟨#[121]⟩) rfl rfl (by
      show ((totL [([97], List.replicate (m + 1) 120, m + 1)] : Nat) : Int) + 1 ≤ 1000
      simp only [totL, List.map_cons, List.map_nil, List.sum_cons, List.sum_nil, List.length_replicate]
      omega)
    refine ⟨by simp, e1, List.replicate (m + 1) 120 ++ [121], m + 1, by simp, e2.trans rfl⟩
namespace diskFuse
set_option maxHeartbeats 4000000 in
set_option maxRecDepth 100000 in
theorem diskFuse_walk (a0 : Int) (W : World) (hw0 : (Lit.int .i64 a0).wf = true) : Calls Try.prog 6 #[.int .i64 a0] W (Good W (.bool true)) := by
  have hr := wf_range hw0
  clear hw0
  have cl := live_c
  by_cases h1 : a0 < 0
  · go_enter Try.func6, Try.ntmps6
    go_wp2_with ((with_reducible refine (cl _).mono ?_); rintro en w1 ⟨rfl, hb⟩)
    go_ret
    exact ⟨rfl, hb⟩
  by_cases h2 : 40 < a0
  · go_enter Try.func6, Try.ntmps6
    go_wp2_with ((with_reducible refine (cl _).mono ?_); rintro en w1 ⟨rfl, hb⟩)
    go_ret
    exact ⟨rfl, hb⟩
  obtain ⟨n, rfl⟩ : ∃ n : Nat, a0 = n := ⟨a0.toNat, by omega⟩
  have hn : n ≤ 40 := by omega
  have c0 := at_new (W := W) (w := W) 1000 (by omega) (Below.refl _ _)
  have hfz : fuseA ⟨1000, false, 0, []⟩ (n : Int) = fz n 0 := by
    unfold fuseA fz
    have e1 : decide ((0 : Int) ≤ (n : Int)) = true := decide_eq_true (by omega)
    have e2 : max (n : Int) 0 = (n : Int) := by omega
    rw [e1, e2]
    simp
  unfold dp at *
  go_enter Try.func6, Try.ntmps6
  go_wp2_with fail
  (with_reducible refine c0.mono ?_)
  rintro en w1 ⟨rfl, hA⟩
  have HA := Lib.hid hA
  clear hA c0
  go_wp2_with fail
  have c1 := at_fuse (n : Int) HA.out (by omega) (by omega)
  rw [hfz] at c1
  unfold dp at c1
  (with_reducible refine c1.mono ?_)
  rintro en w2 ⟨rfl, hA⟩
  have HA2 := Lib.hid hA
  clear hA c1 hfz HA
  go_wp2_with fail
  go_loopw [5, 6] (fun t i wr => ∃ k : Nat, i = .int .i64 k ∧ t = .int .i64 ((min k n : Nat) : Int) ∧ k ≤ 50 ∧ At W W.heap.size (fz n k) wr) (fun _ i _ => 50 - (intOf i).toNat)
  case atStart => exact ⟨0, rfl, by simp, by omega, HA2.out⟩
  case round =>
    obtain ⟨k, rfl, rfl, hk, hA⟩ := hrel
    have HA := Lib.hid hA
    clear hA HA2
    by_cases hk5 : k < 50
    · have c1 := at_app ⟨#[97]⟩ ⟨#[120]⟩ HA.out (by decide) (by decide) (by have := fz_len n k; omega)
      unfold dp at c1
      by_cases hkn : k < n
      · obtain ⟨e1, e2⟩ := fz_go hkn hn
        rw [e1, e2] at c1
        have hm : IntKind.i64.wrap (((min k n : Nat) : Int) + 1) = ((min (k + 1) n : Nat) : Int) := by rw [IntWalk.i64_in _ (by omega)]; omega
        clear e1 e2
        go_wp2_with fail
        (with_reducible refine c1.mono ?_)
        rintro en w3 ⟨rfl, hA⟩
        have HA := Lib.hid hA
        clear hA c1
        go_wp2_with fail
        go_roundw
        case rel => exact ⟨k + 1, by go_num, by go_num, hk5, HA.out⟩
        case measure => simp [intOf]; omega
      · obtain ⟨e1, e2⟩ := fz_stop hkn
        rw [e1, e2] at c1
        have hm : min k n = min (k + 1) n := by omega
        clear e1 e2
        go_wp2_with fail
        (with_reducible refine c1.mono ?_)
        rintro en w3 ⟨rfl, hA⟩
        have HA := Lib.hid hA
        clear hA c1
        go_wp2_with fail
        go_roundw
        case rel => exact ⟨k + 1, by go_num, rfl, hk5, HA.out⟩
        case measure => simp [intOf]; omega
    · have hke : k = 50 := by omega
      subst hke
      have hmn : min 50 n = n := by omega
      rw [hmn]
      have c1 := up_do _ _ _ wr HA.out.1
      have c2 := names_down _ _ _ wr HA.out.1 (fz_down hn)
      rw [fz_down hn] at c1
      unfold dp at c1 c2
      go_wp2_with fail
      (with_reducible refine c1.mono ?_)
      rintro en w3 ⟨rfl, hw⟩
      have hw' := hw.symm
      subst hw'
      clear hw c1
      go_wp2_with fail
      (with_reducible refine c2.mono ?_)
      rintro en w3 ⟨rfl, hw⟩
      have hw' := hw.symm
      subst hw'
      clear hw c2
      go_wp2_with fail
      obtain ⟨f1, f2, b, kk, f3, f4⟩ := fz_end hn
      have hA4 := HA.out.later ((Below.refl wr.heap.size wr).alloc (Nat.le_refl _) (.cells #[.int .i64 1000] 3))
      have c1 := at_crash (a := fz n 50) (some ⟨wr.heap.size, 0, none⟩) 1 [1000] hA4 (HA.out.1.tight.later ((Below.refl wr.heap.size wr).alloc (Nat.le_refl _) (.cells #[.int .i64 1000] 3))) (fun k hk => hk.1) (by have := fz_len n 50; omega) (by decide) (keep_one wr 3 _ (fun h => Nat.lt_irrefl _ h.2) 1000 (by decide) (by decide))
      rw [show ([1000] : List Int).length = 1 from rfl] at c1
      unfold dp at c1
      (with_reducible refine c1.mono ?_)
      rintro en w5 ⟨rfl, hA⟩
      have HA := Lib.hid hA
      clear hA c1 hA4
      go_wp2_with fail
      have c1 := at_app ⟨#[97]⟩ ⟨#[121]⟩ HA.out (by decide) (by decide) (by omega)
      rw [f2, f4] at c1
      unfold dp at c1
      (with_reducible refine c1.mono ?_)
      rintro en w6 ⟨rfl, hA⟩
      have HA := Lib.hid hA
      clear hA c1
      go_wp2_with fail
      have c1 := read_do _ ⟨1000, false, 0, [([97], b, kk)]⟩ _ w6 ⟨#[97]⟩ (by decide) HA.out.1
      rw [show readV ⟨1000, false, 0, [([97], b, kk)]⟩ (⟨#[97]⟩ : ByteArray).data.toList = b from rfl, show seeE ⟨1000, false, 0, [([97], b, kk)]⟩ (⟨#[97]⟩ : ByteArray).data.toList = 0 from rfl] at c1
      unfold dp at c1
      (with_reducible refine c1.mono ?_)
      rintro en w5' ⟨rfl, hw⟩
      have hw' := hw.symm
      subst hw'
      clear hw c1
      have hbs : (⟨b.toArray⟩ : ByteArray).size = n + 1 := by show b.toArray.size = _; simp; exact f3
      generalize (⟨b.toArray⟩ : ByteArray) = t at *
      have c1 := up_do _ _ _ w6 HA.out.1
      rw [show upA ⟨1000, false, 0, [([97], b, kk)]⟩ = true from rfl] at c1
      unfold dp at c1
      clear f1 f2 f3 f4
      have hwn : IntKind.i64.wrap ((n : Int) + 1) = (n : Int) + 1 := IntWalk.i64_in _ (by omega)
      have hts : (t.size : Int) = (n : Int) + 1 := by omega
      go_wp2_with fail
      (with_reducible refine c1.mono ?_)
      rintro en w5' ⟨rfl, hw⟩
      have hw' := hw.symm
      subst hw'
      clear hw c1
      go_wp2_with ((with_reducible refine (cl _).mono ?_); rintro en w7 ⟨rfl, hb⟩)
      all_goals
        go_ret
        exact ⟨rfl, HA.out.2.trans (hb.mono HA.out.2.size)⟩
end diskFuse
end Go.Proofs.Ytpdimmkacjilgaa
