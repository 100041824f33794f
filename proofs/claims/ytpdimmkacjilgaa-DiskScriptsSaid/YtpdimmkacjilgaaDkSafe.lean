/- The walk of DiskSafe. No condition. -/
import Derived.Test.YtpdimmkacjilgaaDkLive
import Derived.Test.YtpdimmkacjilgaaDkOpen
namespace Go.Proofs.Ytpdimmkacjilgaa
open Go.RowKit Go.Maps Go.ChangeMaps Go.WideMaps Go.Shelf
set_option linter.unusedVariables false
theorem app_ok {a : Ab} {n s : ByteArray} (h1 : upA a = true) (h2 : nameB n = true) (h3 : (totL a.L : Int) + (s.size : Int) ≤ a.room) :
    appE a n s = 0 ∧ appA a n s = { chgA a with L := match findL a.L n.data.toList with
                       | some x => setL a.L n.data.toList (n.data.toList, x.2.1 ++ s.data.toList, x.2.2)
                       | none => insL (n.data.toList, s.data.toList, 0) a.L } := by
  have e : appE a n s = 0 := by unfold appE; rw [h1, h2, if_pos rfl, if_pos rfl, if_neg (by omega)]
  exact ⟨e, by unfold appA; rw [if_pos e]; rfl⟩
/-- A disk of one file, crashed. -/
theorem crash_one (r : Int) (fu : Bool) (le : Int) (n b : List UInt8) (s : Nat) (keep : List Int) (hs : s ≤ b.length) : ∃ k, s ≤ k ∧ k ≤ b.length ∧ crashA ⟨r, fu, le, [(n, b, s)]⟩ keep = ⟨r, false, 0, [(n, b.take k, k)]⟩ := by
  by_cases h : b.length = s
  · refine ⟨b.length, by omega, Nat.le_refl _, ?_⟩
    unfold crashA
    simp only [tearL, if_pos h, List.take_length]
    rw [h]
  · refine ⟨s + keptOf keep 0 (b.length - s), by omega, by have := keptOf_le keep 0 (b.length - s); omega, ?_⟩
    unfold crashA
    simp only [tearL, if_neg h]
def flN : ByteArray := ⟨#[102, 105, 108, 101]⟩
theorem size_app (a b : ByteArray) : (a ++ b).size = a.size + b.size := by simp
namespace diskSafe
set_option maxHeartbeats 4000000 in
set_option maxRecDepth 100000 in
theorem diskSafe_walk (one two : ByteArray) (ad : Option Addr) (len c : Nat) (keep : List Int) (W : World) (s0 : one.size ≤ 140737488351232) (s1 : two.size ≤ 140737488351232) (hk : IntRow .i64 W ad len c keep) :
    Calls Try.prog 5 #[.string one, .string two, .slice ad len c] W (Good W (.bool true)) := by
  have hlen : len = keep.length := hk.1.symm
  subst hlen
  obtain ⟨hK, hkl⟩ := keep_of hk
  have cl := live_c
  by_cases h1 : 1000 < one.size
  · have h1' : (1000 : Int) < (one.size : Int) := by omega
    go_enter Try.func5, Try.ntmps5
    go_wp2_with ((with_reducible refine (cl _).mono ?_); rintro en w1 ⟨rfl, hb⟩)
    go_ret
    exact ⟨rfl, hb⟩
  by_cases h2 : 1000 < two.size
  · have h1' : ¬ (1000 : Int) < (one.size : Int) := by omega
    have h2' : (1000 : Int) < (two.size : Int) := by omega
    go_enter Try.func5, Try.ntmps5
    go_wp2_with ((with_reducible refine (cl _).mono ?_); rintro en w1 ⟨rfl, hb⟩)
    go_ret
    exact ⟨rfl, hb⟩
  have h1' : ¬ (1000 : Int) < (one.size : Int) := by omega
  have h2' : ¬ (1000 : Int) < (two.size : Int) := by omega
  have e1 := app_ok (a := ⟨4000, false, 0, []⟩) (n := flN) (s := one) rfl rfl (by show (0 : Int) + _ ≤ 4000; omega)
  have e2 := app_ok (a := ⟨4000, false, 0, [(flN.data.toList, one.data.toList, one.data.toList.length)]⟩) (n := flN) (s := two) rfl rfl (by
    have : one.data.toList.length = one.size := rfl
    show ((one.data.toList.length + 0 : Nat) : Int) + _ ≤ 4000
    omega)
  have f1 : appA ⟨4000, false, 0, []⟩ flN one = ⟨4000, false, 0, [(flN.data.toList, one.data.toList, 0)]⟩ := e1.2
  have f2 : appA ⟨4000, false, 0, [(flN.data.toList, one.data.toList, one.data.toList.length)]⟩ flN two = ⟨4000, false, 0, [(flN.data.toList, one.data.toList ++ two.data.toList, one.data.toList.length)]⟩ := e2.2
  have f3 : syncA ⟨4000, false, 0, [(flN.data.toList, one.data.toList, 0)]⟩ flN.data.toList = ⟨4000, false, 0, [(flN.data.toList, one.data.toList, one.data.toList.length)]⟩ := rfl
  have f4 : seeE ⟨4000, false, 0, [(flN.data.toList, one.data.toList, 0)]⟩ flN.data.toList = 0 := rfl
  obtain ⟨k, k1, k2, f5⟩ := crash_one 4000 false 0 flN.data.toList (one.data.toList ++ two.data.toList) one.data.toList.length keep (by simp)
  have f6 : readV ⟨4000, false, 0, [(flN.data.toList, (one.data.toList ++ two.data.toList).take k, k)]⟩ flN.data.toList = (one.data.toList ++ two.data.toList).take k := rfl
  have f7 : seeE ⟨4000, false, 0, [(flN.data.toList, (one.data.toList ++ two.data.toList).take k, k)]⟩ flN.data.toList = 0 := rfl
  have F1 := Lib.hid (And.intro e1.1 (And.intro f1 (And.intro e2.1 f2)))
  have F2 := Lib.hid (And.intro f3 f4)
  have F3 := Lib.hid (And.intro f5 (And.intro f6 f7))
  have c0 := at_new (W := W) (w := W) 4000 (by omega) (Below.refl _ _)
  clear e1 e2 f1 f2 f3 f4 f5 f6 f7 hk
  obtain ⟨hs3, hs4⟩ : ((⟨((one.data.toList ++ two.data.toList).take k).toArray⟩ : ByteArray).size = k) ∧ (⟨((one.data.toList ++ two.data.toList).take k).toArray⟩ : ByteArray) = (one ++ two).extract 0 k := by
    refine ⟨by show ((one.data.toList ++ two.data.toList).take k).toArray.size = k; simp at k2 ⊢; omega, ?_⟩
    apply ByteArray.ext
    apply Array.toList_inj.1
    simp
    rw [List.take_append]
    rfl
  unfold dp at *
  go_enter Try.func5, Try.ntmps5
  go_wp2_with fail
  (with_reducible refine c0.mono ?_)
  rintro en w1 ⟨rfl, hA⟩
  have HA := Lib.hid hA
  clear hA c0
  go_wp2_with fail
  have c1 := at_app flN one HA.out (by decide) (by omega) (by decide)
  rw [F1.out.1, F1.out.2.1] at c1
  unfold dp flN at c1
  (with_reducible refine c1.mono ?_)
  rintro en w2 ⟨rfl, hA⟩
  have HA := Lib.hid hA
  clear hA c1
  go_wp2_with fail
  have c1 := at_sync (a := ⟨4000, false, 0, [(flN.data.toList, one.data.toList, 0)]⟩) flN HA.out (by decide)
  rw [F2.out.1, F2.out.2] at c1
  unfold dp flN at c1
  (with_reducible refine c1.mono ?_)
  rintro en w3 ⟨rfl, hA⟩
  have HA := Lib.hid hA
  clear hA c1
  go_wp2_with fail
  have c1 := at_app (a := ⟨4000, false, 0, [(flN.data.toList, one.data.toList, one.data.toList.length)]⟩) flN two HA.out (by decide) (by omega) (by show (1 : Nat) ≤ 1000000; omega)
  rw [F1.out.2.2.1, F1.out.2.2.2] at c1
  unfold dp flN at c1
  (with_reducible refine c1.mono ?_)
  rintro en w4 ⟨rfl, hA⟩
  have HA := Lib.hid hA
  clear hA c1
  go_wp2_with fail
  have c1 := at_crash (a := ⟨4000, false, 0, [(flN.data.toList, one.data.toList ++ two.data.toList, one.data.toList.length)]⟩) ad c keep HA.out HA.out.1 (fun _ x => x) (by show (1 : Nat) ≤ 1000000; omega) hkl (hK.off (Off.of_below (fun _ => False) HA.out.2) (fun _ _ x => x.elim))
  rw [F3.out.1] at c1
  unfold dp at c1
  (with_reducible refine c1.mono ?_)
  rintro en w5 ⟨rfl, hA⟩
  have HA := Lib.hid hA
  clear hA c1
  go_wp2_with fail
  have c1 := read_do _ ⟨4000, false, 0, [(flN.data.toList, (one.data.toList ++ two.data.toList).take k, k)]⟩ _ w5 flN (by decide) HA.out.1
  rw [F3.out.2.1, F3.out.2.2] at c1
  unfold dp flN at c1
  rw [hs4] at hs3
  rw [hs4] at c1
  (with_reducible refine c1.mono ?_)
  rintro en w5' ⟨rfl, hw⟩
  have hw' := hw.symm
  subst hw'
  clear hw c1
  generalize htt : (one ++ two).extract 0 k = t at *
  have g1 : ¬ ((t.size : Int) < (one.size : Int)) := by rw [hs3]; have : one.data.toList.length = one.size := rfl; omega
  have g2 : t.size ≤ one.size + two.size := by rw [hs3]; have h3 : one.data.toList.length = one.size := rfl; have h4 : two.data.toList.length = two.size := rfl; rw [List.length_append] at k2; omega
  have g3 : ¬ ((one.size : Int) + (two.size : Int) < (t.size : Int)) := by omega
  have g4 : (one ++ two).extract 0 t.size = t := by rw [hs3]; exact htt
  have g5 : IntKind.i64.wrap ((one.size : Int) + (two.size : Int)) = (one.size : Int) + (two.size : Int) := IntWalk.i64_in _ (by omega)
  have g6 : t.size ≤ (one ++ two).size := by rw [size_app]; omega
  clear htt hs3 hs4 k1 k2
  go_wp2_with ((with_reducible refine (cl _).mono ?_); rintro en w6 ⟨rfl, hb⟩)
  all_goals
    go_ret
    exact ⟨rfl, HA.out.2.trans (hb.mono HA.out.2.size)⟩
end diskSafe
end Go.Proofs.Ytpdimmkacjilgaa
