/- offsets: the iterator over its map's keys, by a contract. No condition. -/
import Derived.Test.YtlkhfgkgngcakaaOfSo
import Derived.Shelf.SlIter.Nil
import Derived.Shelf.AbstractIn
import Derived.RangeFuncSeq
import Derived.RangeFuncGives
import Derived.RangeFuncBound
import Derived.Sort.MapsRangeIn
import Derived.Maps.AppendAt
import Derived.WalkKit
import Derived.OwnWalkIn
import Derived.TacticsInMore
import Derived.RegionIn
import Derived.LoopNIn
import Derived.LoopIn
namespace Go.Proofs.Ytlkhfgkgngcakaa
open Go.RowKit Go.Maps Go.Sort Go.Shelf
set_option linter.unusedVariables false
set_option maxRecDepth 100000 in
set_option maxHeartbeats 4000000 in
theorem keys1N (FF : Fence) (n : Nat) (h10 : FF.fn 51) (hro : FF.round = none) (hn : 1 ≤ n) (l Bm b nn : Nat) (F : List KE) (hF : ∀ e ∈ F, KyOk e.1) (hr : F.Pairwise fun a b => bytesBefore (kyB a.1) (kyB b.1) = true) (J : List KY → World → Prop)
    (hY : ∀ pre x W, J pre W → pre.length < F.length → YieldAt FF (n - 1) Try.prog l #[kyV x] W fun e W' => e = .returned (.bool true) ∧ J (pre ++ [x]) W' ∧ KeepsWalks W W')
    (W : World) (hJ : AbidesFrom W.heap.size J) (hm : W.cell? ⟨Bm, 0, none⟩ = some (.map (some b))) (hown : W.ownsMap Try.prog 45 tokI b nn (mapK F)) (h0 : J [] W) :
    CallsIn FF n Try.prog 51 #[.func (.yield l) #[] #[], .pointer (some ⟨Bm, 0, none⟩)] W fun e W' => (∃ v, e = .returned v) ∧ ∃ ss : List KY, ss.Perm (F.map (·.1)) ∧ J ss W' := by
  have hsz := mapK_size F
  refine callsIn_of_wp Try.func51 rfl h10 ?_ hro
  simp only [Try.ntmps51, List.size_toArray, List.length_cons, List.length_nil, Nat.reduceAdd, Nat.reduceSub, Array.replicate_succ, Array.replicate_zero, List.push_toArray, List.append_toArray, List.nil_append, List.cons_append]
  gi_wp2_with (first
    | (gi_at_range; refine wpListIn_range_own _ rfl _ 57 rfl 45 3 kyKeyed Try.underlying57 _ b nn _ rfl hown ?_; intro w0 hrg0 hg0 hs0)
    | gi_in)
  go_frame
  gi_loopw [6] (fun _ wr => ∃ (left : Lit → Bool) (cnt : Nat) (ss : List KY), wr.ranges Try.prog 45 tokI b W.heap.size nn (mapK F) left cnt ∧ ss.length + cnt ≤ F.length ∧ ColK F left ss ∧ J ss wr)
    (fun _ wr => wr.rangeLeft b W.heap.size)
  case atStart =>
    exact ⟨_, _, [], hrg0, by simp [hsz], ColK.start F, hJ [] W w0 none h0 hg0 (fun r e => by cases e)⟩
  case round =>
    obtain ⟨left, cnt, ss, hrg, hcs, hC, hJs⟩ := hrel
    gi_wp2_with (first
      | (gi_at_next; refine wpListIn_next_ranges (α := KY) (β := Int) _ rfl _ rfl 45 kyKeyed tokI kyV (Value.int .i64) (fun key _ hk => by obtain ⟨k, hk1, _⟩ := kyInv hk; exact ⟨k, hk1⟩) (fun v _ hv => by obtain ⟨a, ha, _⟩ := tokI_of hv; exact ⟨a, ha⟩) b W.heap.size nn _ _ _ rfl hrg ?_ ?_)
      | gi_in)
    · intro hc0 hl0
      gi_wp2
      go_end0
      exact ⟨⟨_, rfl⟩, ss, hC.perm hF hr hl0, hJs⟩
    · intro x c kl yd yp w2 cnt2 hkey hlk hv hat hrg2 hlt hg2 hs2 hen
      obtain ⟨x', hx', hok⟩ := kyInv hkey
      obtain rfl := kyV_inj hx'
      obtain rfl : kl = .string (kyB x) := Option.some.inj (hkey.symm.trans (kyKey x hok))
      have hJ2 : J ss w2 := hJ ss wr w2 (some W.heap.size) hJs hg2 (fun r e => by cases e; exact ⟨Nat.le_refl _, hrg.iter_walk⟩)
      have hgA := World.grownBy_alloc w2 (.cells #[.string x.g, .string x.t, .int .i64 x.i] 45) none
      have hJA := hJ ss _ _ none hJ2 hgA (fun r e => by cases e)
      have hrgA := hrg2.kept hgA (by simp) (by simp)
      obtain ⟨fn, tmps, assign, body, hy, hR⟩ := hY ss x _ hJA (by omega)
      have hbx := Box.new w2 45 #[.string x.g, .string x.t, .int .i64 x.i]
      have b0 := (hbx.cell 0).trans (show _ = some (Value.string x.g) from rfl)
      have b1 := (hbx.cell 1).trans (show _ = some (Value.string x.t) from rfl)
      have b2 := (hbx.cell 2).trans (show _ = some (Value.int .i64 x.i) from rfl)
      rw [hs2] at b0 b1 b2
      clear hbx
      have hC2 := hC.step hok hlk hat
      unfold kyV at hen hy
      clear hkey hat hv hx' hC hlk
      gi_wp2
      refine hR.mono ?_
      rintro e W3 ⟨rfl, hJ3, hk3⟩
      gi_wp2
      have hrg3 := hrgA.of_walks hk3
      go_roundw
      case rel => exact ⟨_, cnt2, ss ++ [x], hrg3, by simp; omega, hC2, hJ3⟩
      case measure => rw [hrg3.left_eq, hrg.left_eq]; exact hlt
/-- maps.Keys(m) hands back an iterator over m's keys. -/
theorem keys_gives (FF : Fence) (n : Nat) (h10 : FF.fn 51) (hro : FF.round = none) (hn : 1 ≤ n) (Bm b nn : Nat) (F : List KE) (hF : ∀ e ∈ F, KyOk e.1) (hr : F.Pairwise fun a b => bytesBefore (kyB a.1) (kyB b.1) = true) (w : World) (hBm : Bm < w.heap.size)
    (hm : w.cell? ⟨Bm, 0, none⟩ = some (.map (some b))) (hown : w.ownsMap Try.prog 45 tokI b nn (mapK F)) :
    SeqGives FF n Try.prog 51 #[.pointer (some ⟨Bm, 0, none⟩)] kyV (fun ss => ss.Perm (F.map (·.1))) F.length w := fun l J W hW hJ hY h0 => by
  have hown' : W.ownsMap Try.prog 45 tokI b nn (mapK F) := by
    have hbl := hown.lt
    obtain ⟨es, clock, hb, Ft, hs, hD⟩ := hown
    exact ⟨es, clock, (hW.block b hbl).trans hb, Ft, hs, hD⟩
  exact keys1N FF n h10 hro hn l Bm b nn F hF hr J hY W hJ ((hW.cell (p := ⟨Bm, 0, none⟩) hBm).trans hm) hown' h0
theorem mkeys_in (FF : Fence) (n : Nat) (h7 : FF.fn 33) (hro : FF.round = none) (mb : Option Nat) (w : World) :
    CallsIn FF n Try.prog 33 #[.map mb] w fun e w' => e = .returned (.func (.func 51) #[] #[.pointer (some ⟨w.heap.size, 0, none⟩)]) ∧ w' = w.alloc (.cells #[.map mb] 57) := by
  refine callsIn_of_wp Try.func33 rfl h7 ?_ hro
  simp only [Try.ntmps33, List.size_toArray, List.length_cons, List.length_nil, Nat.reduceAdd, Nat.reduceSub, Array.replicate_succ, Array.replicate_zero, List.push_toArray, List.append_toArray, List.nil_append, List.cons_append]
  gi_wp2
  go_ret
  exact ⟨rfl, rfl⟩
end Go.Proofs.Ytlkhfgkgngcakaa
