/- token.Fold and the document's Fold by one contract each. Condition: the text's length. -/
import Derived.Test.YtmnmgbbdjpfonaaDoorMtTkBase
namespace Go.Proofs.YtmnmgbbdjpfonaaDoor
open Go.RowKit
set_option linter.unusedVariables false
/-- The row half folded. -/
def halfL (l : List UInt8) (k : Nat) : List UInt8 := TK.foldL (l.take k) ++ l.drop k
theorem halfL_len (l : List UInt8) (k : Nat) : (halfL l k).length = l.length := by unfold halfL; rw [List.length_append, TK.foldL_length, List.length_take, List.length_drop]; omega
theorem halfL_zero (l : List UInt8) : halfL l 0 = l := by simp [halfL, TK.foldL]
theorem halfL_all {l : List UInt8} {k : Nat} (h : l.length ≤ k) : halfL l k = TK.foldL l := by unfold halfL; rw [List.take_of_length_le h, List.drop_eq_nil_of_le h, List.append_nil]
theorem halfL_at {l : List UInt8} {k : Nat} (h : k < l.length) : (halfL l k)[k]? = some l[k] := by
  unfold halfL
  rw [List.getElem?_append_right (by rw [TK.foldL_length, List.length_take]; omega), TK.foldL_length, List.length_take, List.getElem?_drop]
  rw [show k + (k - min k l.length) = k by omega]
  exact List.getElem?_eq_getElem h
theorem halfL_set {l : List UInt8} {k : Nat} (h : k < l.length) : (halfL l k).set k (TK.lowB l[k]) = halfL l (k + 1) := by
  unfold halfL
  have hl : (TK.foldL (l.take k)).length = k := by rw [TK.foldL_length, List.length_take]; omega
  rw [List.set_append_right _ _ (by omega), hl, Nat.sub_self, List.drop_eq_getElem_cons h, List.set_cons_zero, List.take_succ_eq_append_getElem h]
  unfold TK.foldL
  simp only [List.map_append, List.map_cons, List.map_nil, List.append_assoc, List.singleton_append]
theorem halfL_same {l : List UInt8} {k : Nat} (h : k < l.length) (he : TK.lowB l[k] = l[k]) : halfL l k = halfL l (k + 1) := by
  rw [← halfL_set h, he]
  obtain ⟨hk, e⟩ := List.getElem?_eq_some_iff.1 (halfL_at h)
  rw [← e]
  exact (List.set_getElem_self hk).symm
theorem lowB_keep {c : UInt8} (h : ¬ (65 ≤ c.toNat ∧ c.toNat ≤ 90)) : TK.lowB c = c := by
  apply UInt8.toNat_inj.1
  rw [TK.lowB_nat]
  unfold TK.lowN
  rw [if_neg h]
theorem lowB_turn {c : UInt8} (h : 65 ≤ c.toNat ∧ c.toNat ≤ 90) : TK.lowB c = UInt8.ofNat (c.toNat + 32) := by
  unfold TK.lowB TK.lowN
  rw [if_pos h]
structure FoldAt (W : World) (l : List UInt8) (cap k : Nat) (wr : World) : Prop where
  row : BRow wr 5 W.heap.size cap (halfL l k)
  bel : Below W.heap.size W wr
theorem FoldAt.keep {W wr : World} {l : List UInt8} {cap k : Nat} (h : FoldAt W l cap k wr) (hk : k < l.length) (hn : ¬ (65 ≤ l[k].toNat ∧ l[k].toNat ≤ 90)) : FoldAt W l cap (k + 1) wr :=
  ⟨halfL_same hk (lowB_keep hn) ▸ h.row, h.bel⟩
theorem FoldAt.turn {W wr : World} {l : List UInt8} {cap k m : Nat} (h : FoldAt W l cap k wr) (hk : k < l.length) (hm : l[k].toNat = m) (hn : 65 ≤ m ∧ m ≤ 90) : FoldAt W l cap (k + 1) (wr.setCell ⟨W.heap.size, k, none⟩ (.int .u8 ((m : Int) - 65 + 97))) := by
  have e : ((m : Int) - 65 + 97) = ((m + 32 : Nat) : Int) := by omega
  rw [e]
  refine ⟨?_, h.bel.setCell (Nat.le_refl _) _⟩
  have := h.row.set (j := k) (b := m + 32) (by rw [halfL_len]; exact hk) (by omega)
  rw [← halfL_set hk, lowB_turn (by rw [hm]; exact hn), hm]
  exact this
set_option maxHeartbeats 4000000 in
theorem fold_c (l : List UInt8) (W : World) (hl : l.length ≤ 140737488351232) : Calls Tryd.prog 44 #[.string (bs l)] W (Good W (.string (bs (TK.foldL l)))) := by
  obtain ⟨cap, w1, hrun, hrow, hb, hsz⟩ := bytes_of (P := Tryd.prog) W 9 68 5 (bs l) Tryd.underlying9 Tryd.underlying68 Tryd.underlying5
  rw [bs_size] at hrun
  rw [bs_list] at hrow
  have H0 : Hid (FoldAt W l cap 0 w1) := Lib.hid ⟨by rw [halfL_zero]; exact hrow, hb⟩
  clear hrow hb hsz
  go_enter Tryd.func44, Tryd.ntmps44
  go_wp2
  go_loopw [10] (fun i wr => ∃ k : Nat, i = .int .i64 k ∧ k ≤ l.length ∧ FoldAt W l cap k wr) (fun i _ => l.length - (intOf i).toNat)
  case atStart => exact ⟨0, rfl, Nat.zero_le _, H0.out⟩
  case round =>
    obtain ⟨k, rfl, hk, hR⟩ := hrel
    clear hrun H0
    by_cases hlt : k < l.length
    · have hcell := hR.row.cell (halfL_at hlt)
      have hcap : k < cap := by have := hR.row.len; rw [halfL_len] at this; omega
      have hfr := hR.row.frozen hcap
      obtain ⟨m, hm⟩ : ∃ m, l[k].toNat = m := ⟨_, rfl⟩
      have hm2 : m < 256 := by rw [← hm]; exact UInt8.toNat_lt _
      rw [hm] at hcell
      have HR := Lib.hid hR
      have HM := Lib.hid hm
      clear hm hR
      by_cases h1 : 65 ≤ m
      · by_cases h2 : m ≤ 90
        · have HS := Lib.hid (HR.out.turn hlt HM.out ⟨h1, h2⟩)
          go_wp2
          go_roundw
          case rel => exact ⟨k + 1, by go_num, hlt, HS.out⟩
          case measure => simp [intOf]; omega
        · have HS := Lib.hid (HR.out.keep hlt (by rw [HM.out]; omega))
          go_wp2
          go_roundw
          case rel => exact ⟨k + 1, by go_num, hlt, HS.out⟩
          case measure => simp [intOf]; omega
      · have HS := Lib.hid (HR.out.keep hlt (by rw [HM.out]; omega))
        go_wp2
        go_roundw
        case rel => exact ⟨k + 1, by go_num, hlt, HS.out⟩
        case measure => simp [intOf]; omega
    · have htext := hR.row.text (P := Tryd.prog) 68 9 cap l.length Tryd.underlying68 Tryd.underlying5 Tryd.underlying9 (halfL_len _ _).symm
      have hbel := hR.bel
      rw [halfL_all (by omega)] at htext
      clear hR
      go_wp2
      go_ret
      exact ⟨rfl, hbel⟩
set_option maxHeartbeats 4000000 in
theorem rfold_c (l : List UInt8) (W : World) (hl : l.length ≤ 140737488351232) : Calls Tryd.prog 48 #[.string (bs l)] W (Good W (.string (bs (TK.foldL l)))) := by
  obtain ⟨cap, w1, hrun, hrow, hb, hsz⟩ := bytes_of (P := Tryd.prog) W 9 68 5 (bs l) Tryd.underlying9 Tryd.underlying68 Tryd.underlying5
  rw [bs_size] at hrun
  rw [bs_list] at hrow
  have H0 : Hid (FoldAt W l cap 0 w1) := Lib.hid ⟨by rw [halfL_zero]; exact hrow, hb⟩
  clear hrow hb hsz
  go_enter Tryd.func48, Tryd.ntmps48
  go_wp2
  go_loopw [4] (fun i wr => ∃ k : Nat, i = .int .i64 k ∧ k ≤ l.length ∧ FoldAt W l cap k wr) (fun i _ => l.length - (intOf i).toNat)
  case atStart => exact ⟨0, rfl, Nat.zero_le _, H0.out⟩
  case round =>
    obtain ⟨k, rfl, hk, hR⟩ := hrel
    clear hrun H0
    by_cases hlt : k < l.length
    · have hcell := hR.row.cell (halfL_at hlt)
      have hcap : k < cap := by have := hR.row.len; rw [halfL_len] at this; omega
      have hfr := hR.row.frozen hcap
      obtain ⟨m, hm⟩ : ∃ m, l[k].toNat = m := ⟨_, rfl⟩
      have hm2 : m < 256 := by rw [← hm]; exact UInt8.toNat_lt _
      rw [hm] at hcell
      have HR := Lib.hid hR
      have HM := Lib.hid hm
      clear hm hR
      by_cases h1 : 65 ≤ m
      · by_cases h2 : m ≤ 90
        · have HS := Lib.hid (HR.out.turn hlt HM.out ⟨h1, h2⟩)
          go_wp2
          go_roundw
          case rel => exact ⟨k + 1, by go_num, hlt, HS.out⟩
          case measure => simp [intOf]; omega
        · have HS := Lib.hid (HR.out.keep hlt (by rw [HM.out]; omega))
          go_wp2
          go_roundw
          case rel => exact ⟨k + 1, by go_num, hlt, HS.out⟩
          case measure => simp [intOf]; omega
      · have HS := Lib.hid (HR.out.keep hlt (by rw [HM.out]; omega))
        go_wp2
        go_roundw
        case rel => exact ⟨k + 1, by go_num, hlt, HS.out⟩
        case measure => simp [intOf]; omega
    · have htext := hR.row.text (P := Tryd.prog) 68 9 cap l.length Tryd.underlying68 Tryd.underlying5 Tryd.underlying9 (halfL_len _ _).symm
      have hbel := hR.bel
      rw [halfL_all (by omega)] at htext
      clear hR
      go_wp2
      go_ret
      exact ⟨rfl, hbel⟩
end Go.Proofs.YtmnmgbbdjpfonaaDoor
