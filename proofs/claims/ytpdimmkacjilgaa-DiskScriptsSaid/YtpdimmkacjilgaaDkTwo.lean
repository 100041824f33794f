/- The walk of DiskCopies. No condition. -/
import Derived.Test.YtpdimmkacjilgaaDkCopy2
namespace Go.Proofs.Ytpdimmkacjilgaa
open Go.RowKit Go.Maps Go.ChangeMaps Go.WideMaps Go.Shelf
set_option linter.unusedVariables false
/-- Two disks that were made behind W, each of its own blocks. -/
def Two (W : World) (p : Nat) (a : Ab) (q : Nat) (b : Ab) (w : World) : Prop :=
  ∃ S T : Nat → Prop, Is w p a S ∧ Is w q b T ∧ (∀ k, S k → ¬ T k) ∧ (∀ k, S k → W.heap.size ≤ k) ∧ (∀ k, T k → W.heap.size ≤ k) ∧ Below W.heap.size W w
theorem Two.swap {W : World} {p : Nat} {a : Ab} {q : Nat} {b : Ab} {w : World} (h : Two W p a q b w) : Two W q b p a w := by
  obtain ⟨S, T, h1, h2, h3, h4, h5, h6⟩ := h
  exact ⟨T, S, h2, h1, fun k hT hS => h3 k hS hT, h5, h4, h6⟩
theorem Two.one {W : World} {p : Nat} {a : Ab} {q : Nat} {b : Ab} {w : World} (h : Two W p a q b w) : ∃ S, Is w p a S := by
  obtain ⟨S, T, h1, _⟩ := h
  exact ⟨S, h1⟩
theorem Two.at {W : World} {p : Nat} {a : Ab} {q : Nat} {b : Ab} {w : World} (h : Two W p a q b w) : At W p a w := by
  obtain ⟨S, T, h1, h2, h3, h4, h5, h6⟩ := h
  exact ⟨h1.mono h4, h6⟩
theorem Two.below {W : World} {p : Nat} {a : Ab} {q : Nat} {b : Ab} {w : World} (h : Two W p a q b w) : Below W.heap.size W w := h.at.2
theorem two_does {W w : World} {p : Nat} {a a' : Ab} {q : Nat} {b : Ab} (h : Two W p a q b w) {P : Program} {f : FuncId} {args : Array Value} {v : Value} (hc : ∀ S, Is w p a S → Calls P f args w (Does w p S v a')) :
    Calls P f args w (fun e w' => e = .returned v ∧ Two W p a' q b w') := by
  obtain ⟨S, T, h1, h2, h3, h4, h5, h6⟩ := h
  refine (hc _ h1.tight).mono ?_
  rintro e w' ⟨rfl, hI, ho⟩
  have hT := h2.tight.off ho (fun k hk hx hy => h3 k hy.1 hx.1)
  have hs := h6.size
  refine ⟨rfl, _, _, hI, hT, fun k hk hx => ?_, fun k hk => ?_, fun k hk => h5 k hk.1, h6.trans (ho.below hs fun k hk => h4 k hk.1)⟩
  · rcases hk with hk | hk
    · exact h3 k hk.1 hx.1
    · have := hx.2; omega
  · rcases hk with hk | hk
    · exact h4 k hk.1
    · omega
theorem two_app {W w : World} {p : Nat} {a : Ab} {q : Nat} {b : Ab} (n s : ByteArray) (h : Two W p a q b w) (hn : n.size ≤ 140737488351232) (hs : s.size ≤ 281474976710656) (hlen : a.L.length ≤ 1000000) :
    Calls Try.prog 15 #[dp p, .string n, .string s] w (fun e w' => e = .returned (.int .i64 (appE a n s)) ∧ Two W p (appA a n s) q b w') :=
  two_does h fun S hI => app_do p a S w n s hn hs hI hlen
theorem two_drop {W w : World} {p : Nat} {a : Ab} {q : Nat} {b : Ab} (n : ByteArray) (h : Two W p a q b w) (hn : n.size ≤ maxLen) :
    Calls Try.prog 19 #[dp p, .string n] w (fun e w' => e = .returned (.int .i64 (seeE a n.data.toList)) ∧ Two W p (dropA a n.data.toList) q b w') :=
  two_does h fun S hI => drop_do p a S w n hn hI
theorem at_copy {W w : World} {p : Nat} {a : Ab} (h : At W p a w) (hlen : a.L.length ≤ 1000000) :
    Calls Try.prog 14 #[dp p] w (fun e w' => e = .returned (dp w.heap.size) ∧ Two W p a w.heap.size a w') := by
  refine (copy_do p a _ w h.1 hlen).mono ?_
  rintro e w' ⟨rfl, h1, h2⟩
  have hs := h.2.size
  exact ⟨rfl, _, _, h.1.tight.later h2, h1, fun k hk hx => by have := hk.2; omega, fun k hk => hk.1, fun k hk => by omega, h.2.trans (h2.mono hs)⟩
def tw1 (l : List UInt8) : Ab := ⟨2000, false, 0, [([97], l, 0)]⟩
def tw2 (l : List UInt8) : Ab := ⟨2000, false, 0, [([98], l, 0)]⟩
def tw0 : Ab := ⟨2000, false, 0, []⟩
namespace diskCopies
set_option maxHeartbeats 8000000 in
set_option maxRecDepth 100000 in
theorem diskCopies_walk (one two : ByteArray) (W : World) (s0 : one.size ≤ 140737488351232) (s1 : two.size ≤ 140737488351232) :
    Calls Try.prog 8 #[.string one, .string two] W (Good W (.bool true)) := by
  have cl := live_c
  by_cases h1 : 300 < one.size
  · have h1' : (300 : Int) < (one.size : Int) := by omega
    go_enter Try.func8, Try.ntmps8
    go_wp2_with ((with_reducible refine (cl _).mono ?_); rintro en w1 ⟨rfl, hb⟩)
    go_ret
    exact ⟨rfl, hb⟩
  by_cases h2 : 300 < two.size
  · have h1' : ¬ (300 : Int) < (one.size : Int) := by omega
    have h2' : (300 : Int) < (two.size : Int) := by omega
    go_enter Try.func8, Try.ntmps8
    go_wp2_with ((with_reducible refine (cl _).mono ?_); rintro en w1 ⟨rfl, hb⟩)
    go_ret
    exact ⟨rfl, hb⟩
  have h1' : ¬ (300 : Int) < (one.size : Int) := by omega
  have h2' : ¬ (300 : Int) < (two.size : Int) := by omega
  have e1 : appE tw0 nA one = 0 ∧ appA tw0 nA one = tw1 one.data.toList := app_ok (a := tw0) (n := nA) (s := one) rfl rfl (by show (0 : Int) + _ ≤ 2000; omega)
  have e2 : appE (tw1 one.data.toList) nA two = 0 ∧ appA (tw1 one.data.toList) nA two = tw1 (one ++ two).data.toList := by
    obtain ⟨q1, q2⟩ := app_ok (a := tw1 one.data.toList) (n := nA) (s := two) rfl rfl (by
      have : one.data.toList.length = one.size := rfl
      show ((one.data.toList.length + 0 : Nat) : Int) + _ ≤ 2000
      omega)
    refine ⟨q1, q2.trans ?_⟩
    have : (one ++ two).data.toList = one.data.toList ++ two.data.toList := by simp
    rw [this]
    rfl
  have e3 : dropA (tw1 one.data.toList) nA.data.toList = tw0 := rfl
  have e4 : appE tw0 nB two = 0 ∧ appA tw0 nB two = tw2 two.data.toList := app_ok (a := tw0) (n := nB) (s := two) rfl rfl (by show (0 : Int) + _ ≤ 2000; omega)
  have E1 := Lib.hid e1
  have E2 := Lib.hid e2
  have E3 := Lib.hid e3
  have E4 := Lib.hid e4
  clear e1 e2 e3 e4
  have c0 := at_new (W := W) (w := W) 2000 (by omega) (Below.refl _ _)
  unfold dp at *
  go_enter Try.func8, Try.ntmps8
  go_wp2_with fail
  (with_reducible refine c0.mono ?_)
  rintro en w1 ⟨rfl, hA⟩
  have HA := Lib.hid hA
  clear hA c0
  go_wp2_with fail
  have c1 := at_app (a := tw0) nA one HA.out (by decide) (by omega) (by decide)
  rw [E1.out.1, E1.out.2] at c1
  unfold dp nA at c1
  (with_reducible refine c1.mono ?_)
  rintro en w2 ⟨rfl, hA⟩
  have HA := Lib.hid hA
  clear hA c1
  go_wp2_with fail
  have c1 := at_copy HA.out (by show (1 : Nat) ≤ 1000000; omega)
  unfold dp at c1
  (with_reducible refine c1.mono ?_)
  rintro en w3 ⟨rfl, hA⟩
  have HT := Lib.hid hA
  clear hA c1
  go_wp2_with fail
  have c1 := two_app nA two HT.out (by decide) (by omega) (by show (1 : Nat) ≤ 1000000; omega)
  rw [E2.out.1, E2.out.2] at c1
  unfold dp nA at c1
  (with_reducible refine c1.mono ?_)
  rintro en w4 ⟨rfl, hA⟩
  have HT := Lib.hid hA.swap
  clear hA c1
  go_wp2_with fail
  have c1 := two_drop nA HT.out (by decide)
  rw [E3.out] at c1
  unfold dp nA at c1
  (with_reducible refine c1.mono ?_)
  rintro en w5 ⟨rfl, hA⟩
  have HT := Lib.hid hA
  clear hA c1
  go_wp2_with fail
  have c1 := two_app nB two HT.out (by decide) (by omega) (by decide)
  rw [E4.out.1, E4.out.2] at c1
  unfold dp nB at c1
  (with_reducible refine c1.mono ?_)
  rintro en w6 ⟨rfl, hA⟩
  have HT := Lib.hid hA
  clear hA c1
  go_wp2_with fail
  obtain ⟨S, hS⟩ := HT.out.swap.one
  obtain ⟨T, hT⟩ := HT.out.one
  have c1 := read_do _ _ _ w6 nA (by decide) hS
  rw [show readV (tw1 (one ++ two).data.toList) nA.data.toList = (one ++ two).data.toList from rfl, show seeE (tw1 (one ++ two).data.toList) nA.data.toList = 0 from rfl, show (⟨(one ++ two).data.toList.toArray⟩ : ByteArray) = one ++ two from rfl] at c1
  unfold dp nA at c1
  (with_reducible refine c1.mono ?_)
  rintro en w7' ⟨rfl, hw⟩
  have hw' := hw.symm
  subst hw'
  clear hw c1
  go_wp2_with fail
  have c1 := read_do _ _ _ w6 nB (by decide) hS
  rw [show readV (tw1 (one ++ two).data.toList) nB.data.toList = [] from rfl, show seeE (tw1 (one ++ two).data.toList) nB.data.toList = 6 from rfl] at c1
  unfold dp nB at c1
  (with_reducible refine c1.mono ?_)
  rintro en w7' ⟨rfl, hw⟩
  have hw' := hw.symm
  subst hw'
  clear hw c1
  go_wp2_with fail
  have c1 := read_do _ _ _ w6 nB (by decide) hT
  rw [show readV (tw2 two.data.toList) nB.data.toList = two.data.toList from rfl, show seeE (tw2 two.data.toList) nB.data.toList = 0 from rfl, show (⟨two.data.toList.toArray⟩ : ByteArray) = two from rfl] at c1
  unfold dp nB at c1
  (with_reducible refine c1.mono ?_)
  rintro en w7' ⟨rfl, hw⟩
  have hw' := hw.symm
  subst hw'
  clear hw c1
  go_wp2_with fail
  have c1 := read_do _ _ _ w6 nA (by decide) hT
  rw [show readV (tw2 two.data.toList) nA.data.toList = [] from rfl, show seeE (tw2 two.data.toList) nA.data.toList = 6 from rfl] at c1
  unfold dp nA at c1
  (with_reducible refine c1.mono ?_)
  rintro en w7' ⟨rfl, hw⟩
  have hw' := hw.symm
  subst hw'
  clear hw c1 hS hT
  have HB := Lib.hid HT.out.below
  go_wp2_with ((with_reducible refine (cl _).mono ?_); rintro en w9 ⟨rfl, hb⟩)
  all_goals
    go_ret
    exact ⟨rfl, HB.out.trans (hb.mono HB.out.size)⟩
end diskCopies
end Go.Proofs.Ytpdimmkacjilgaa
