/- The document's Same, at two readings of one record: true; by a contract (from the record layer's text). -/
import Derived.Test.YtmnmgbbdjpfonaaDoorMtHd
import Derived.Deep.RegionHeld3
import Derived.Laws.StructEq
namespace Go.Proofs.YtmnmgbbdjpfonaaDoor
open Go.RowKit
set_option linter.unusedVariables false
theorem head_same (x y : ByteArray) (w : World) : (binOp .neq 42 (.agg #[.string x, .string y]) (.agg #[.string x, .string y])).run Tryd.prog w = .ok (.bool false) w := by
  simp [go_sem]
structure SameAt (W : World) (ca cb : Array Value) (w : World) : Prop where
  one : Box w W.heap.size 27 ca
  two : Box w (W.heap.size + 1) 27 cb
  bel : Below W.heap.size W w
theorem SameAt.start (W : World) (ca cb : Array Value) : SameAt W ca cb ((W.alloc (.cells ca 27)).alloc (.cells cb 27)) :=
  ⟨(Box.new _ _ _).alloc _, by have h := Box.new (W.alloc (.cells ca 27)) 27 cb; simpa using h, ((Below.refl _ _).alloc (Nat.le_refl _) _).alloc (by simp) _⟩
theorem SameAt.drewN {W w : World} {ca cb : Array Value} (h : SameAt W ca cb w) (n : Nat) : SameAt W ca cb (w.drewN n) := ⟨h.one.drewN n, h.two.drewN n, h.bel.trans ⟨rfl, rfl, rfl, Nat.le_refl _, fun _ _ => rfl⟩⟩
set_option maxHeartbeats 2000000 in
set_option maxRecDepth 100000 in
theorem rsame_c (r : Rec) (A B : Option Addr) (c d : Nat) (W : World) (hl : r.heads.length ≤ 1000) (hA : HIn W A r.heads) (hB : HIn W B r.heads) :
    Calls Tryd.prog 26 #[recV r A c, recV r B d] W (Good W (.bool true)) := by
  obtain ⟨place, time, bare, key, gone, value, heads⟩ := r
  have HA := Lib.hid hA
  have HB := Lib.hid hB
  simp only at HA HB
  clear hA hB
  unfold recV recC
  simp only at *
  have hs := fun x y w => head_same x y w
  go_enter Tryd.func26, Tryd.ntmps26
  go_wp2
  have HST : Hid (SameAt W #[.int .i64 place, .int .i64 time, .bool bare, .string key, .bool gone, .string value, .slice A heads.length c] #[.int .i64 place, .int .i64 time, .bool bare, .string key, .bool gone, .string value, .slice B heads.length d] ((W.alloc (.cells #[.int .i64 place, .int .i64 time, .bool bare, .string key, .bool gone, .string value, .slice A heads.length c] 27)).alloc (.cells #[.int .i64 place, .int .i64 time, .bool bare, .string key, .bool gone, .string value, .slice B heads.length d] 27))) := Lib.hid (SameAt.start W _ _)
  go_loopw [5] (fun i wr => ∃ k : Nat, i = .int .i64 k ∧ k ≤ heads.length ∧ SameAt W #[.int .i64 place, .int .i64 time, .bool bare, .string key, .bool gone, .string value, .slice A heads.length c] #[.int .i64 place, .int .i64 time, .bool bare, .string key, .bool gone, .string value, .slice B heads.length d] wr) (fun i _ => heads.length - (intOf i).toNat)
  case atStart => exact ⟨0, rfl, Nat.zero_le _, HST.out⟩
  case round =>
    obtain ⟨k, rfl, hkl, hS⟩ := hrel
    clear HST
    have x6 := (hS.one.cell 6).trans (show _ = some (Value.slice A heads.length c) from rfl)
    have y6 := (hS.two.cell 6).trans (show _ = some (Value.slice B heads.length d) from rfl)
    by_cases hk : k < heads.length
    · obtain ⟨b, off, rfl, hbl, q1, q2⟩ := (HA.out.below hS.bel).at_ hk
      obtain ⟨b', off', rfl, hbl', q1', q2'⟩ := (HB.out.below hS.bel).at_ hk
      have HS := Lib.hid hS
      clear hS
      have hki : (k : Int) < (heads.length : Int) := by omega
      have hk0 : (0 : Int) ≤ (k : Int) := by omega
      generalize heads[k].1 = z1 at *
      generalize heads[k].2 = z2 at *
      go_wp2
      go_quiet (fail)
      go_wp2
      go_roundw
      case rel => exact ⟨k + 1, by go_num, hk, HS.out.drewN _⟩
      case measure => simp [intOf]; omega
    · have hb := hS.bel
      clear hS
      go_wp2
      go_ret
      exact ⟨rfl, hb⟩
end Go.Proofs.YtmnmgbbdjpfonaaDoor
