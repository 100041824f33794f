/- The law VarintRow walks to true for every row of numbers. No condition. -/
import Derived.Test.YtcepdppnhhidoaaVShort
import Derived.Test.YtcepdppnhhidoaaKit2
namespace Go.Proofs.Ytcepdppnhhidoaa
open Go.RowKit
set_option linter.unusedVariables false
def rowL (z : List Int) : List UInt8 := z.flatMap putL
theorem rowL_snoc (z : List Int) (x : Int) : rowL (z ++ [x]) = rowL z ++ putL x := by simp [rowL]
theorem rowL_len : ∀ z : List Int, (rowL z).length ≤ 10 * z.length
  | [] => by simp [rowL]
  | x :: z => by
    have := rowL_len z
    have h := putL_len x
    rw [show rowL (x :: z) = putL x ++ rowL z by simp [rowL], List.length_append, List.length_cons]
    omega
theorem cat_mk (l m : List UInt8) : (⟨l.toArray⟩ : ByteArray) ++ ⟨m.toArray⟩ = ⟨(l ++ m).toArray⟩ := by
  apply ByteArray.ext
  simp
theorem take_getD {z : List Int} {k : Nat} (h : k < z.length) : z.take (k + 1) = z.take k ++ [z.getD k 0] := by
  rw [List.take_succ_eq_append_getElem h]
  simp [List.getD, h]
theorem row_get {z : List Int} {k : Nat} (hk : k < z.length) (h0 : -9223372036854775808 ≤ z.getD k 0) (h1 : z.getD k 0 ≤ 9223372036854775807) :
    getG ⟨(rowL z).toArray⟩ ((rowL (z.take k)).length : Nat) = (z.getD k 0, (((rowL (z.take (k + 1))).length : Nat) : Int), 0) ∧ (rowL (z.take k)).length < (rowL (z.take (k + 1))).length := by
  have e : rowL z = rowL (z.take k) ++ (putL (z.getD k 0) ++ rowL (z.drop (k + 1))) := by
    conv => lhs; rw [← List.take_append_drop (k + 1) z, take_getD hk]
    simp [rowL, List.flatMap_append]
  have hs : (⟨(rowL z).toArray⟩ : ByteArray).size = (rowL z).length := rfl
  have hd : (⟨(rowL z).toArray⟩ : ByteArray).data.toList = rowL z := by simp
  have hp := putL_pos h0 h1
  rw [take_getD hk, rowL_snoc, List.length_append]
  refine ⟨?_, by omega⟩
  rw [getG_in (by rw [hs, e, List.length_append]; omega), hd, e, List.drop_left, getT_put h0 h1]
  simp
structure RowA (W : World) (z : List Int) (k : Nat) (s : ByteArray) (wr : World) : Prop where
  bel : Below W.heap.size W wr
  str : s = ⟨(rowL (z.take k)).toArray⟩
theorem RowA.add {W wr w1 : World} {z : List Int} {k : Nat} {s : ByteArray} (h : RowA W z k s wr) (hk : k < z.length) (hb : Below W.heap.size W w1) : RowA W z (k + 1) (s ++ ⟨(putL (z.getD k 0)).toArray⟩) w1 :=
  ⟨hb, by rw [h.str, cat_mk, take_getD hk, rowL_snoc]⟩
set_option maxHeartbeats 1000000 in
set_option maxRecDepth 100000 in
theorem varintRow_walk (a0 : Option Addr) (len0 cap0 : Nat) (z0 : List Int) (W : World) (k0 : IntRow .i64 W a0 len0 cap0 z0) :
    Calls Try.prog 10 #[.slice a0 len0 cap0] W (Yes W) := by
  obtain ⟨hzl, hlc, hcm, hwf, hat⟩ := k0
  have hcm' : cap0 ≤ 9223372036854775807 := by unfold maxLen at hcm; omega
  clear hcm
  by_cases hbig : 100 < len0
  · go_enter Try.func10, Try.ntmps10
    go_wp2_with ((with_reducible refine (live_c _).mono ?_); rintro e w1 ⟨rfl, hb1⟩)
    go_ret
    exact ⟨rfl, hb1⟩
  · have hbd : ∀ k, k < len0 → -9223372036854775808 ≤ z0.getD k 0 ∧ z0.getD k 0 ≤ 9223372036854775807 := fun k hk => by
      have hk' : k < z0.length := by omega
      have := hwf z0[k] (List.getElem_mem hk')
      rw [show z0.getD k 0 = z0[k] by simp [List.getD, hk']]
      exact i64_bd this
    have h0 : RowA W z0 0 ⟨#[]⟩ W := ⟨Below.refl _ _, rfl⟩
    have H0 := Lib.hid h0
    have HB := Lib.hid hbd
    have HA := Lib.hid hat
    have HZ := Lib.hid hzl
    clear h0 hbd hat hzl hwf
    go_enter Try.func10, Try.ntmps10
    go_wp2
    go_loopw [3, 4] (fun x i wr => ∃ (k : Nat) (s : ByteArray), k ≤ len0 ∧ i = .int .i64 k ∧ x = .string s ∧ RowA W z0 k s wr) (fun _ i _ => len0 - (intOf i).toNat)
    case atStart => exact ⟨0, _, by omega, rfl, rfl, H0.out⟩
    case round =>
      obtain ⟨k, s, hk, rfl, rfl, hR⟩ := hrel
      by_cases hkl : k < len0
      · obtain ⟨b, off, rfl, hblk, hcells⟩ := HA.out (by omega)
        have hcell := hcells k hkl
        rw [← hR.bel.cell (p := ⟨b, off + k, none⟩) hblk] at hcell
        obtain ⟨b0, b1⟩ := HB.out k hkl
        have hkz : k < z0.length := by rw [HZ.out]; exact hkl
        have hS : ∀ w1, Below W.heap.size W w1 → RowA W z0 (k + 1) (s ++ ⟨(putL (z0.getD k 0)).toArray⟩) w1 := fun w1 h => hR.add hkz h
        have HS := Lib.hid hS
        have c1 := fun w => put_c (z0.getD k 0) w b0 b1
        have hsl : s.size ≤ 1000 := by
          rw [hR.str]
          show (rowL (z0.take k)).length ≤ 1000
          have := rowL_len (z0.take k)
          rw [List.length_take] at this
          omega
        have hpl := put_size (z0.getD k 0)
        have hadd : ∀ w, (Op.stringOp .add s ⟨(putL (z0.getD k 0)).toArray⟩).run Try.prog w = .ok (.string (s ++ ⟨(putL (z0.getD k 0)).toArray⟩)) w := add_run hsl hpl (by decide)
        have hbel := hR.bel
        clear hS hcells hR b0 b1 hsl hpl
        generalize z0.getD k 0 = x at *
        generalize (⟨(putL x).toArray⟩ : ByteArray) = r at *
        go_wp2_with ((with_reducible refine (c1 _).mono ?_); rintro e w1 ⟨rfl, hb1⟩)
        have HR := Lib.hid (HS.out _ (hbel.trans (hb1.mono hbel.size)))
        go_roundw
        case rel => exact ⟨k + 1, _, by omega, by go_num, rfl, HR.out⟩
        case measure => simp [intOf]; omega
      · obtain rfl : k = len0 := by omega
        have hbel := hR.bel
        have hstr := hR.str
        rw [List.take_of_length_le (by rw [HZ.out]; omega)] at hstr
        have hsz : (⟨(rowL z0).toArray⟩ : ByteArray).size ≤ 281474976710656 := by
          show (rowL z0).length ≤ 281474976710656
          have := rowL_len z0
          rw [HZ.out] at this
          omega
        have HG : Hid (∀ j, j < k → getG ⟨(rowL z0).toArray⟩ ((rowL (z0.take j)).length : Nat) = (z0.getD j 0, (((rowL (z0.take (j + 1))).length : Nat) : Int), 0) ∧ (rowL (z0.take j)).length < (rowL (z0.take (j + 1))).length) := Lib.hid fun j hj =>
          row_get (by rw [HZ.out]; exact hj) (HB.out j hj).1 (HB.out j hj).2
        have HE : Hid ((⟨(rowL z0).toArray⟩ : ByteArray).size = (rowL (z0.take k)).length) := Lib.hid (by rw [List.take_of_length_le (by rw [HZ.out]; omega)]; rfl)
        have cg := fun p w => get_c ⟨(rowL z0).toArray⟩ p w hsz
        rw [← hstr] at hsz HG HE cg
        clear hR hstr
        go_wp2
        go_loop [5, 6] (fun x i => ∃ j : Nat, j ≤ k ∧ i = .int .i64 j ∧ x = .int .i64 ((rowL (z0.take j)).length : Nat)) (fun _ i => k - (intOf i).toNat)
        case atStart => exact ⟨0, by omega, rfl, rfl⟩
        case round =>
          obtain ⟨j, hj, rfl, rfl⟩ := hrel
          by_cases hjl : j < k
          · obtain ⟨b, off, rfl, hblk, hcells⟩ := HA.out (by omega)
            have hcell := hcells j hjl
            rw [← hbel.cell (p := ⟨b, off + j, none⟩) hblk] at hcell
            have hg := HG.out j hjl
            have c2 := cg ((rowL (z0.take j)).length : Nat)
            rw [hg.1] at c2
            have hlt := hg.2
            unfold Tri at c2
            have HL := Lib.hid (rfl : (rowL (z0.take (j + 1))).length = (rowL (z0.take (j + 1))).length)
            obtain ⟨q, HQ⟩ : ∃ q, Hid (q = (rowL (z0.take (j + 1))).length) := ⟨_, Lib.hid rfl⟩
            rw [← HQ.out] at c2 hlt
            clear hg hcells cg
            generalize (rowL (z0.take j)).length = p at *
            generalize z0.getD j 0 = x at *
            go_wp2_with ((with_reducible refine (c2 _).mono ?_); rintro e w1 ⟨rfl, rfl⟩)
            go_round
            case rel => exact ⟨j + 1, by omega, by go_num, by rw [HQ.out]⟩
            case measure => simp [intOf]; omega
          · obtain rfl : j = k := by omega
            rw [← HE.out]
            clear cg
            go_wp2_with ((with_reducible refine (live_c _).mono ?_); rintro e w1 ⟨rfl, hb1⟩)
            go_ret
            exact ⟨rfl, hbel.trans (hb1.mono hbel.size)⟩
end Go.Proofs.Ytcepdppnhhidoaa
