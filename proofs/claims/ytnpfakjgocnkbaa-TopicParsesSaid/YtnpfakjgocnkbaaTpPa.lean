/- topic: Parse, by a contract. No condition. -/
import Derived.Test.YtnpfakjgocnkbaaTpTb
namespace Go.Proofs.Ytnpfakjgocnkbaa
open Go.RowKit
set_option linter.unusedVariables false
def GotPa (W : World) (e : Int) (t : TS) (en : Ending) (w' : World) : Prop :=
  (e ≠ 0 ∧ en = .returned (.tuple #[.pointer none, .int .i64 e]) ∧ Below W.heap.size W w') ∨
    (e = 0 ∧ ∃ p, en = .returned (.tuple #[.pointer (some ⟨p, 0, none⟩), .int .i64 0]) ∧ TI p t w' (fun k => W.heap.size ≤ k) ∧ TOk t ∧ Below W.heap.size W w')
set_option maxHeartbeats 8000000 in
set_option maxRecDepth 100000 in
theorem tparse_c (s : ByteArray) (W : World) (hs : s.size ≤ 1152921504606846976) : Calls Try.prog 15 #[.string s] W (GotPa W (paT s) ((tbT s).1, (tbT s).2.1)) := by
  have hB : Below W.heap.size W (W.alloc (.cells #[.string s, .int .i64 0, .int .i64 0] 64)) := (Below.refl _ _).alloc (Nat.le_refl _) _
  have HX : Hid (Box (W.alloc (.cells #[.string s, .int .i64 0, .int .i64 0] 64)) W.heap.size 64 (rdC s 0 0)) := Lib.hid (Box.new _ _ _)
  have HB := Lib.hid hB
  have kp := table_c W.heap.size s _ HX.out hs
  have HOK := Lib.hid (fun h => (print_parse (s := s) h).2)
  unfold GotTb dp at kp
  obtain ⟨e, he⟩ : ∃ e, paT s = e := ⟨_, rfl⟩
  rw [he] at kp HOK ⊢
  generalize (tbT s).1 = n at *
  generalize (tbT s).2.1 = F at *
  clear he hB
  go_enter Try.func15, Try.ntmps15
  go_wp2_with fail
  with_reducible refine kp.mono ?_
  rintro en w1 ⟨rfl, m, q, hT, hx, hm, ho⟩
  have hsz : (W.alloc (.cells #[.string s, .int .i64 0, .int .i64 0] 64)).heap.size = W.heap.size + 1 := Array.size_push ..
  rw [hsz] at hT hm
  rw [hsz]
  have hBW : Below W.heap.size W w1 := HB.out.trans (ho.below HB.out.size (fun k hk => by omega))
  obtain ⟨_, x1, x2, _, _⟩ := hx.rd0
  have HT := Lib.hid hT
  have HM := Lib.hid hm
  have HBW := Lib.hid hBW
  clear hT hBW hm ho HB HX kp hsz hx
  by_cases hz : e = 0
  · subst hz
    go_wp2_with fail
    go_ret2
    exact .inr ⟨rfl, _, rfl, ⟨m, HT.out, Nat.le_succ _, fun k hk => Nat.le_trans (Nat.le_succ _) (HM.out k hk)⟩, HOK.out trivial, HBW.out⟩
  · have he1 : (e == (0 : Int)) = false := by simp [hz]
    have HE := Lib.hid hz
    clear hz
    go_wp2_with fail
    go_region_with (fail)
    all_goals
      go_wp2_with fail
      go_ret2
      exact .inl ⟨HE.out, rfl, HBW.out.drew⟩
end Go.Proofs.Ytnpfakjgocnkbaa
