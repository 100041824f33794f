/- TokenNone, walked. Condition: the text's length; the tables of utf8. -/
import Derived.Test.YtfndedkcmnknkaaDoorTkLaws2
namespace Go.Proofs.YtfndedkcmnknkaaDoor
open Go.RowKit
set_option linter.unusedVariables false
theorem bs_atN (L : List UInt8) (i : Nat) (h : i < (bs L).size) : ((bs L)[i]'h).toNat = TK.bt L i := by
  have h' : i < L.length := by rw [bs_size] at h; exact h
  unfold TK.bt
  rw [List.getD_eq_getElem?_getD, List.getElem?_eq_getElem h']
  rfl
theorem fold_great (L : List UInt8) (i : Nat) : ¬ (65 ≤ TK.bt (TK.foldL L) i ∧ TK.bt (TK.foldL L) i ≤ 90) := by
  rw [TK.bt_fold]
  unfold TK.lowN
  split <;> omega
set_option maxHeartbeats 8000000 in
set_option maxRecDepth 100000 in
theorem none_w (L : List UInt8) (W : World) (hl : L.length ≤ 140737488351232) (hT : Tabs W) : Calls Tryd.prog 8 #[.string (bs L)] W (Yes W) := by
  have c1 := fun w => fold_c L w hl
  have c2 := fun w => fold_c (TK.foldL L) w (by rw [TK.foldL_length]; exact hl)
  rw [TK.foldL_idem] at c2
  have hsz : (bs (TK.foldL L)).size = (bs L).size := by rw [bs_size, bs_size, TK.foldL_length]
  have hsl : (bs L).size ≤ 140737488351232 := by rw [bs_size]; exact hl
  have hne : ((bs (TK.foldL L)).size : Int) = ((bs L).size : Int) := by rw [hsz]
  have hat := bs_atN (TK.foldL L)
  have hgr := fold_great L
  have hww : (∀ j, j < L.length → TK.bt (TK.foldL L) j < 128 ∧ TK.asc (TK.bt (TK.foldL L) j) = false) → ∀ w, Tabs w → Calls Tryd.prog 12 #[.string (bs L)] w (RowOut w []) := fun h w hTw => by
    have e := TK.words_none h
    have h2 := words_c L hl (by rw [e]; decide) w hTw
    rw [e] at h2
    exact h2
  have HL : Hid (L.length = (bs L).size) := Lib.hid (bs_size L).symm
  clear hl
  generalize TK.foldL L = F at *
  have H1 := Lib.hid (And.intro hat (And.intro hgr hww))
  have HZ := Lib.hid hsz
  clear hat hgr hww hsz
  go_enter Tryd.func8, Tryd.ntmps8
  go_wp2_with fail
  (with_reducible refine (c1 _).mono ?_)
  rintro e w1 ⟨rfl, hb1⟩
  go_wp2_with fail
  (with_reducible refine (c2 _).mono ?_)
  rintro e w2 ⟨rfl, hb2⟩
  have HB := Lib.hid (hb1.trans (hb2.mono hb1.size))
  clear hb1 hb2 c1 c2
  go_wp2_with fail
  go_loop [4] (fun i => ∃ k : Nat, i = .int .i64 k ∧ k ≤ (bs L).size ∧ ∀ j, j < k → TK.bt F j < 128 ∧ TK.asc (TK.bt F j) = false) (fun i => (bs L).size - (intOf i).toNat)
  case atStart => exact ⟨0, rfl, Nat.zero_le _, fun j hj => by omega⟩
  case round =>
    obtain ⟨k, rfl, hk, hall⟩ := hrel
    have HA := Lib.hid hall
    clear hall
    by_cases hlt : k < (bs L).size
    · have hz1 : (k : Int) < ((bs F).size : Int) := by rw [HZ.out]; omega
      have hz3 : k < (bs F).size := by rw [HZ.out]; omega
      have hc := H1.out.1 k hz3
      have hg := H1.out.2.1 k
      have hm2 := TK.bt_lt F k
      obtain ⟨m, hm⟩ : ∃ m, TK.bt F k = m := ⟨_, rfl⟩
      rw [hm] at hc hg hm2
      have HM := Lib.hid hm
      have cl := live_c w2 (hT.below HB.out)
      clear hm
      go_wp2_with ((with_reducible refine cl.mono ?_); rintro e w3 ⟨rfl, hb3⟩)
      all_goals first
        | (go_ret; exact ⟨rfl, HB.out.trans (hb3.mono HB.out.size)⟩)
        | (go_round
           case rel => exact ⟨k + 1, by go_num, hlt, fun j hj => by
             by_cases hjk : j = k
             · subst hjk
               rw [HM.out]
               refine ⟨by omega, ?_⟩
               rw [Bool.eq_false_iff]
               intro h
               unfold TK.asc at h
               simp only [Bool.or_eq_true, Bool.and_eq_true, decide_eq_true_eq] at h
               omega
             · exact HA.out j (by omega)⟩
           case measure => simp [intOf]; omega)
    · have cw := H1.out.2.2 (fun j hj => HA.out j (by have := HL.out; omega)) w2 (hT.below HB.out)
      have hz1 : ((bs F).size : Int) ≤ (k : Int) := by rw [HZ.out]; omega
      have hz2 : decide ((k : Int) < ((bs L).size : Int)) = false := decide_eq_false (by omega)
      go_wp2_with fail
      (with_reducible refine cw.mono ?_)
      rintro e w3 ⟨v, rfl, hr3, hb3⟩
      obtain ⟨nb, cap, hv⟩ := row_shape hr3
      have hv' : v = .slice nb 0 cap := hv
      subst hv'
      have HB3 := Lib.hid (HB.out.trans (hb3.mono HB.out.size))
      clear hr3 hb3 cw hv
      go_wp2_with fail
      (with_reducible refine (live_c _ (hT.below HB3.out)).mono ?_)
      rintro e w4 ⟨rfl, hb4⟩
      have HB4 := Lib.hid (HB3.out.trans (hb4.mono HB3.out.size))
      clear hb4 HB3
      go_wp2
      go_ret
      exact ⟨rfl, HB4.out⟩
theorem tokenNone_walk (a0 : ByteArray) (W : World) (s0 : a0.size ≤ 140737488351232) (hT : Tabs W) : Calls Tryd.prog 8 #[.string a0] W (Yes W) := by
  have h := none_w a0.data.toList W (by rw [size_list]; exact s0) hT
  rw [bs_self] at h
  exact h
end Go.Proofs.YtfndedkcmnknkaaDoor
