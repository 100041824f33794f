/- The law CrccEnds walks to true for every text. Condition: the package's table reads as its text lays it. -/
import Derived.Test.YtcepdppnhhidoaaDoorTurn
import Derived.OwnWalk
namespace Go.Proofs.YtcepdppnhhidoaaDoor
open Go.RowKit
def le (n : Nat) : Nat → List UInt8
  | 0 => []
  | k + 1 => le n k ++ [UInt8.ofNat (n / 2 ^ (8 * k) % 256)]
theorem le_len (n : Nat) : ∀ k, (le n k).length = k
  | 0 => rfl
  | k + 1 => by rw [le, List.length_append, le_len n k]; rfl
theorem num_le (n : Nat) (hn : n < 4294967296) : num (le n 4) = n := by
  have h : ∀ x, (UInt8.ofNat (x % 256)).toNat = x % 256 := fun x => by rw [UInt8.toNat_ofNat_of_lt' (by simpa using Nat.mod_lt x (by decide))]
  simp only [le, num, List.nil_append, List.cons_append, h]
  simp
  omega
theorem ext_ends (s : List UInt8) : ext 0 (s ++ le (ext 0 s) 4) = 1214729159 := by
  have hlt : ext 0 s < 4294967296 := ext_lt (by decide) s
  have h1 : ext 0 (s ++ le (ext 0 s) 4) = 4294967295 ^^^ crc (crc 4294967295 s) (le (ext 0 s) 4) := by
    rw [ext, crc_append]; rfl
  have h2 : crc 4294967295 s ^^^ ext 0 s = 4294967295 := by
    show crc 4294967295 s ^^^ (4294967295 ^^^ crc (4294967295 ^^^ 0) s) = 4294967295
    rw [Nat.xor_zero, Nat.xor_comm 4294967295, ← Nat.xor_assoc, Nat.xor_self, Nat.zero_xor]
  rw [h1, crc_num, num_le _ hlt, le_len, h2]
  decide +kernel
theorem info5 : (Tryd.prog.info? 5).map (fun i => (i.zero, i.size, i.bytes)) = some (some (.int .u8 0), 1, 1) := by kernel_rfl
set_option maxHeartbeats 1000000 in
theorem crccEnds_walk (a0 : ByteArray) (W : World) (s0 : a0.size ≤ 140737488351232) (hT : Tab W) :
    Calls Tryd.prog 8 #[.string a0] W fun e w' => e = .returned (.bool true) ∧ Below W.heap.size W w' := by
  obtain ⟨cap, W1, hrun, hB, hbel, hsz1⟩ := bytes_of (P := Tryd.prog) W 9 28 5 a0 Tryd.underlying9 Tryd.underlying28 Tryd.underlying5
  obtain ⟨i0, hi, hz0, hz1, hz2⟩ := info_parts info5
  have hpos := hT.pos
  have hm0 : a0.size ≤ maxLen := by unfold maxLen; omega
  have c1 : Calls Tryd.prog 9 #[.string a0] W _ := sum_c a0 W hm0 hT
  have hends := Lib.hid (ext_ends a0.data.toList)
  have hlt : ext 0 a0.data.toList < 4294967296 := ext_lt (by decide) _
  have hbs : BSl W1 5 W.heap.size (.slice (some ⟨W.heap.size, 0, none⟩) a0.size cap) (a0.data.toList ++ le (ext 0 a0.data.toList) 0) := by
    rw [le, List.append_nil]
    exact BSl.of_row hB (Nat.le_refl _) rfl rfl
  have hlen := Lib.hid (show a0.data.toList.length = a0.size from rfl)
  have hT1 : Tab W1 := hT.later hbel hpos
  generalize ext 0 a0.data.toList = n at *
  go_enter Tryd.func8, Tryd.ntmps8
  go_wp2_with ((with_reducible refine c1.mono ?_); rintro e w' ⟨rfl, rfl⟩)
  go_loopw [4, 5] (fun v i wr => ∃ k : Nat, k ≤ 4 ∧ i = .int .i64 k ∧ BSl wr 5 W.heap.size v (a0.data.toList ++ le n k) ∧ Below W.heap.size W wr) (fun _ i _ => 4 - (intOf i).toNat)
  case atStart => exact ⟨0, by omega, rfl, hbs, hbel⟩
  case round =>
    obtain ⟨k, hk, rfl, hv, hbw⟩ := hrel
    by_cases hk4 : k < 4
    · have hq : (n : Int) / 2 ^ (8 * k) % 256 = ((n / 2 ^ (8 * k) % 256 : Nat) : Int) := by simp
      have hb : n / 2 ^ (8 * k) % 256 < 256 := Nat.mod_lt _ (by decide)
      have hL : Hid (a0.data.toList ++ le n (k + 1) = (a0.data.toList ++ le n k) ++ [UInt8.ofNat (n / 2 ^ (8 * k) % 256)]) := Lib.hid (by rw [le, List.append_assoc])
      have hln : (a0.data.toList ++ le n k).length ≤ 140737488351236 := by
        rw [List.length_append, le_len, hlen.out]; omega
      generalize n / 2 ^ (8 * k) % 256 = b at hq hb hL
      generalize a0.data.toList ++ le n k = l at hv hL hln
      have hbs := hbw.size
      go_wp2_with (at_builtin; go_loud (refine wpList_append_bytes _ rfl (.tmp 14) (.tmp 21) _ rfl W.heap.size 5 i0 Tryd.underlying28 hi hz0 hz1 hz2 _ l rfl (hv.alloc _) ⟨wr.heap.size, 0, none⟩ 1 1 [UInt8.ofNat b] rfl rfl ?c1 ?c2 ?c3 ?_))
      case c1 => exact fun j y hy => append_one wr 5 b j y hy hb
      case c2 => omega
      case c3 => simp; omega
      intro v1 w1 hv1 hg1 ho1
      have hbw1 : Below W.heap.size W w1 := (hbw.alloc hbs _).grown hg1 (by simp; omega) (fun k hk => (hv.lt k hk).1)
      clear ho1 hg1 hv
      rw [← hL.out] at hv1
      go_wp2
      go_roundw
      case rel => exact ⟨k + 1, by omega, by go_num, hv1, hbw1⟩
      case measure => simp [intOf]; omega
    · obtain rfl : k = 4 := by omega
      have htext := hv.text (P := Tryd.prog) 28 9 Tryd.underlying28 Tryd.underlying5 Tryd.underlying9
      have hTr : Tab wr := hT.later hbw hpos
      have hsl : (⟨(a0.data.toList ++ le n 4).toArray⟩ : ByteArray).size ≤ maxLen := by
        have h1 : (⟨(a0.data.toList ++ le n 4).toArray⟩ : ByteArray).size = (a0.data.toList ++ le n 4).length := rfl
        rw [h1, List.length_append, le_len, hlen.out]; unfold maxLen; omega
      have c2 : Calls Tryd.prog 9 #[.string ⟨(a0.data.toList ++ le n 4).toArray⟩] wr _ := sum_c _ wr hsl hTr
      have hel : (⟨(a0.data.toList ++ le n 4).toArray⟩ : ByteArray).data.toList = a0.data.toList ++ le n 4 := by simp
      rw [hel, hends.out] at c2
      generalize (⟨(a0.data.toList ++ le n 4).toArray⟩ : ByteArray) = r at *
      clear hsl hel hv
      go_wp2_with (first
        | ((with_reducible refine c2.mono ?_); rintro e w' ⟨rfl, rfl⟩)
        | ((with_reducible refine (live_c wr hTr).mono ?_); rintro e w' ⟨rfl, rfl⟩))
      go_ret
      exact ⟨rfl, hbw⟩
end Go.Proofs.YtcepdppnhhidoaaDoor
