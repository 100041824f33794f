/- The document's Has, and the comparison of rows of texts. Condition: the texts' lengths; the tables of utf8. -/
import Derived.Test.YtmnmgbbdjpfonaaDoorMtTkRef
import Derived.Deep.RegionHeld3
namespace Go.Proofs.YtmnmgbbdjpfonaaDoor
open Go.RowKit
set_option linter.unusedVariables false
theorem strC_at {l : List (List UInt8)} {j : Nat} {n : List UInt8} (h : l[j]? = some n) : (strC l)[j]? = some (.string (bs n)) := by
  unfold strC
  rw [List.getElem?_map, h]
  rfl
theorem row_shape {W : World} {base : Nat} {v : Value} {l : List (List UInt8)} (hrow : W.ownsRow base 9 1 v l.length (strC l)) : ∃ nb cap, v = .slice nb l.length cap := by
  rcases hrow.2 with ⟨hv, h0⟩ | ⟨g, cap, cur, hv, _⟩
  · exact ⟨_, _, by rw [h0]; exact hv⟩
  · exact ⟨_, _, hv⟩
theorem row_block {W : World} {base n cap : Nat} {nb : Option Addr} {l : List (List UInt8)} (hrow : W.ownsRow base 9 1 (.slice nb n cap) l.length (strC l)) (h : 0 < l.length) : ∃ g, nb = some ⟨g, 0, none⟩ := by
  rcases hrow.2 with ⟨hv, h0⟩ | ⟨g, cap, cur, hv, _⟩
  · omega
  · injection hv with h1 _ _
    exact ⟨g, h1⟩
set_option maxHeartbeats 4000000 in
set_option maxRecDepth 100000 in
theorem rhas_c (L wd : List UInt8) (hl : L.length ≤ 8000000000) (hw : wd.length ≤ 140737488351232) (W : World) (hT : Tabs W) :
    Calls Tryd.prog 36 #[.string (bs L), .string (bs wd)] W (Good W (.bool (decide (TK.foldL wd ∈ TK.words L)))) := by
  have cw := rwords_c L hl W hT
  have cf := fun w => rfold_c wd w hw
  have hcnt := TK.words_count L
  go_enter Tryd.func36, Tryd.ntmps36
  go_wp2_with fail
  (with_reducible refine cw.mono ?_)
  rintro e w1 ⟨v, rfl, hr1, hb1⟩
  generalize TK.words L = ws at *
  obtain ⟨nb, cap, rfl⟩ := row_shape hr1
  have H1 := Lib.hid (And.intro hr1 hb1)
  clear hr1 hb1 cw
  go_wp2_with fail
  (with_reducible refine (cf _).mono ?_)
  rintro e w2 ⟨rfl, hb2⟩
  have H2 := Lib.hid (And.intro (own_below H1.out.1 hb2) (H1.out.2.trans (hb2.mono H1.out.2.size)))
  clear hb2 cf H1
  generalize TK.foldL wd = F at *
  go_wp2_with fail
  go_loop [7] (fun i => ∃ j : Nat, i = .int .i64 j ∧ j ≤ ws.length ∧ F ∉ ws.take j) (fun i => ws.length - (intOf i).toNat)
  case atStart => exact ⟨0, rfl, Nat.zero_le _, by simp⟩
  case round =>
    obtain ⟨j, rfl, hj, hno⟩ := hrel
    by_cases hjl : j < ws.length
    · have hn : ws[j]? = some ws[j] := List.getElem?_eq_getElem hjl
      obtain ⟨g1, rfl⟩ := row_block H2.out.1 (by omega)
      have x1 : w2.cell? ⟨g1, j, none⟩ = some (.string (bs ws[j])) := (H2.out.1.cellAt j (by omega)).trans (strC_at hn)
      have hji : (j : Int) < (ws.length : Int) := by omega
      have hj0 : (0 : Int) ≤ (j : Int) := by omega
      have htk : ws.take (j + 1) = ws.take j ++ [ws[j]] := List.take_succ_eq_append_getElem hjl
      by_cases hxF : ws[j] = F
      · have hin : decide (F ∈ ws) = true := decide_eq_true (hxF ▸ List.getElem_mem hjl)
        rw [hxF] at x1
        clear htk hn hno
        rw [hin]
        go_wp2
        go_ret
        exact ⟨rfl, H2.out.2⟩
      · have hne : ((bs ws[j]).toList == (bs F).toList) = false := str_ne (fun e => hxF (by have := congrArg (fun b : ByteArray => b.data.toList) e; simpa [bs_list] using this))
        have HN : Hid (F ∉ ws.take (j + 1)) := Lib.hid (by rw [htk, List.mem_append]; rintro (h | h); exact hno h; simp at h; exact hxF h.symm)
        clear htk hn hno
        generalize bs ws[j] = sx at *
        go_wp2
        go_round
        case rel => exact ⟨j + 1, by go_num, hjl, HN.out⟩
        case measure => simp [intOf]; omega
    · have hin : decide (F ∈ ws) = false := decide_eq_false (by rw [List.take_of_length_le (by omega)] at hno; exact hno)
      rw [hin]
      clear hno
      go_wp2
      go_ret
      exact ⟨rfl, H2.out.2⟩
end Go.Proofs.YtmnmgbbdjpfonaaDoor
