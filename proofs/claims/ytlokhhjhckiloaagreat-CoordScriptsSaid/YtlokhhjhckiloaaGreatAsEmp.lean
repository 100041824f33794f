/- assign: who wants a topic, in a row; a topic's partitions; shares ahead of all dealing: by contracts. No condition. -/
import Derived.Test.YtlokhhjhckiloaaGreatAsTak
import Derived.Maps.AppendAt
namespace Go.Proofs.YtlokhhjhckiloaaGreat
open Go.RowKit
set_option linter.unusedVariables false
/-- A row under way. -/
structure RowS (W : World) (t size : Nat) (v : Value) (n : Nat) (xs : List Value) (w : World) : Prop where
  row : w.ownsRow W.heap.size t size v n xs
  bel : Below W.heap.size W w
theorem RowS.later {W w w' : World} {t size n : Nat} {v : Value} {xs : List Value} (h : RowS W t size v n xs w) (hb : Below w.heap.size w w') : RowS W t size v n xs w' := ⟨own_below h.row hb, h.bel.trans (hb.mono h.bel.size)⟩
theorem RowS.grow {W w w' : World} {t size n m : Nat} {v v' : Value} {xs ys : List Value} (h : RowS W t size v n xs w) (hr : w'.ownsRow W.heap.size t size v' m ys) (hg : w.grownBy w' v.ownBlock) : RowS W t size v' m ys w' :=
  ⟨hr, h.bel.grown hg h.bel.size (fun j e => (h.row.lt j e).1)⟩
theorem RowS.start (W : World) (t size : Nat) : RowS W t size (.slice none 0 0) 0 [] W := ⟨World.ownsRow_nil _ _ _ _, Below.refl _ _⟩
set_option maxHeartbeats 4000000 in
theorem takers_c (L : List SX) (A : Option Addr) (c : Nat) (s : ByteArray) (W : World) (hH : SbIn W A L) (hl : L.length ≤ 1000) (hz : ∀ x ∈ L, x.2.1.length ≤ 140737488351232) :
    Calls Tryz.prog 123 #[.slice A L.length c, .string s] W (GotI W (takersG L s L.length)) := by
  have HH := Lib.hid hH
  have HR0 := Lib.hid (RowS.start W 3 1)
  obtain ⟨i0, hi, hz0, hz1, hz2⟩ := info_parts infoInt
  clear hH
  unfold GotI
  go_enter Tryz.func123, Tryz.ntmps123
  go_wp2_with fail
  go_loopw [5, 6, 10] (fun a _ j wr => ∃ (k : Nat) (B : Option Addr) (e : Nat), j = .int .i64 k ∧ k ≤ L.length ∧ a = .slice B (takersG L s k).length e ∧ RowS W 3 1 (.slice B (takersG L s k).length e) (takersG L s k).length (intsC (takersG L s k)) wr) (fun _ _ j _ => L.length - (intOf j).toNat)
  case atStart => exact ⟨0, none, 0, rfl, Nat.zero_le _, rfl, HR0.out⟩
  case round =>
    obtain ⟨k, B, e0, rfl, hkl, rfl, hP⟩ := hrel
    have HP := Lib.hid hP
    clear hP HR0
    by_cases hk : k < L.length
    · have hx : L[k]? = some L[k] := List.getElem?_eq_getElem hk
      obtain ⟨b, off, rfl, hlt, y0, y1, y2⟩ := (HH.out.below HP.out.bel).at_ hk
      have hzk := hz _ (List.getElem_mem hk)
      have HY := Lib.hid (takersG_yes (s := s) hx)
      have HN := Lib.hid (takersG_no (s := s) hx)
      have hki : (k : Int) < (L.length : Int) := by omega
      have hkz : (takersG L s k).length ≤ 1000 := by have := takersG_len L s k; omega
      have HV := Lib.hid (HP.out.later ((Below.refl wr.heap.size wr).alloc (Nat.le_refl _) (.cells (sbC L[k]) 142)))
      have cw := has_c L[k].2.1 L[k].2.2.1 L[k].2.2.2 s (wr.alloc (.cells (sbC L[k]) 142)) (y2.below ((Below.refl wr.heap.size wr).alloc (Nat.le_refl _) _)) hzk
      clear hx hz y2
      generalize L[k] = x at *
      generalize takersG L s k = M at *
      unfold sbC at cw HV
      go_wp2_with fail
      with_reducible refine cw.mono ?_
      rintro en w2 ⟨rfl, hb2⟩
      have HP2 := Lib.hid (HV.out.later hb2)
      clear hb2 cw HP
      cases hd : hasB x.2.1 s with
      | false =>
        have HNN := Lib.hid (HN.out hd)
        clear hd HN HY
        go_wp2_with fail
        go_roundw
        case rel => exact ⟨k + 1, B, e0, by go_num, hk, by rw [HNN.out], by rw [HNN.out]; exact HP2.out⟩
        case measure => simp [intOf]; omega
      | true =>
        have HYY := Lib.hid (HY.out hd)
        clear hd HN HY
        have HP3 := Lib.hid (HP2.out.later ((Below.refl w2.heap.size w2).alloc (Nat.le_refl _) (.cells #[.int .i64 k] 3)))
        have hrow := HP3.out.row
        have hnews := news_at (Box.new w2 3 #[.int .i64 (k : Int)])
        have hsz2 := HP3.out.bel.size
        clear y0 y1
        go_wp2_with (at_builtin; refine wpList_append_own_at _ rfl _ _ 60 rfl W.heap.size 3 i0 (.int .i64 0) 1 8 Tryz.underlying60 hi hz0 hz1 hz2 rfl (by decide) (.slice B M.length e0) M.length (intsC M) rfl hrow ⟨w2.heap.size, 0, none⟩ 1 1 [.int .i64 (k : Int)] rfl rfl hnews (by simp [Value.oneCell']) (by unfold maxLen; omega) (by omega) hsz2 ?_)
        intro v' w5 hown' hgrow _ _
        obtain ⟨g', cap', rfl⟩ := own_slice hown'
        have HP7 := Lib.hid (HP3.out.grow hown' hgrow)
        clear hown' hgrow hrow hnews
        go_wp2
        go_roundw
        case rel =>
          refine ⟨k + 1, g', cap', by go_num, hk, ?_, ?_⟩
          · rw [HYY.out, List.length_append]; rfl
          · rw [HYY.out, List.length_append, intsC_app]; exact HP7.out
        case measure => simp [intOf]; omega
    · have hkk : k = L.length := by omega
      subst hkk
      go_wp2_with fail
      go_ret
      exact ⟨B, e0, rfl, HP.out.row, HP.out.bel⟩
set_option maxHeartbeats 4000000 in
theorem rtakers_c (L : List SX) (A : Option Addr) (c : Nat) (s : ByteArray) (W : World) (hH : SbIn W A L) (hl : L.length ≤ 1000) (hz : ∀ x ∈ L, x.2.1.length ≤ 140737488351232) :
    Calls Tryz.prog 118 #[.slice A L.length c, .string s] W (GotI W (takersG L s L.length)) := by
  have HH := Lib.hid hH
  have HR0 := Lib.hid (RowS.start W 3 1)
  obtain ⟨i0, hi, hz0, hz1, hz2⟩ := info_parts infoInt
  clear hH
  unfold GotI
  go_enter Tryz.func118, Tryz.ntmps118
  go_wp2_with fail
  go_loopw [5, 6] (fun a j wr => ∃ (k : Nat) (B : Option Addr) (e : Nat), j = .int .i64 k ∧ k ≤ L.length ∧ a = .slice B (takersG L s k).length e ∧ RowS W 3 1 (.slice B (takersG L s k).length e) (takersG L s k).length (intsC (takersG L s k)) wr) (fun _ j _ => L.length - (intOf j).toNat)
  case atStart => exact ⟨0, none, 0, rfl, Nat.zero_le _, rfl, HR0.out⟩
  case round =>
    obtain ⟨k, B, e0, rfl, hkl, rfl, hP⟩ := hrel
    have HP := Lib.hid hP
    clear hP HR0
    by_cases hk : k < L.length
    · have hx : L[k]? = some L[k] := List.getElem?_eq_getElem hk
      obtain ⟨b, off, rfl, hlt, y0, y1, y2⟩ := (HH.out.below HP.out.bel).at_ hk
      have hzk := hz _ (List.getElem_mem hk)
      have HY := Lib.hid (takersG_yes (s := s) hx)
      have HN := Lib.hid (takersG_no (s := s) hx)
      have hki : (k : Int) < (L.length : Int) := by omega
      have hkz : (takersG L s k).length ≤ 1000 := by have := takersG_len L s k; omega
      have cw := fun w (hb : Below wr.heap.size wr w) => wants_c L[k] s w (y2.below hb) hzk
      clear hx hz y2
      generalize L[k] = x at *
      generalize takersG L s k = M at *
      unfold sbV sbC at cw
      go_wp2_with fail
      with_reducible refine (cw _ (Below.refl _ _)).mono ?_
      rintro en w2 ⟨rfl, hb2⟩
      have HP2 := Lib.hid (HP.out.later hb2)
      clear hb2 cw HP
      cases hd : hasB x.2.1 s with
      | false =>
        have HNN := Lib.hid (HN.out hd)
        clear hd HN HY
        go_wp2_with fail
        go_roundw
        case rel => exact ⟨k + 1, B, e0, by go_num, hk, by rw [HNN.out], by rw [HNN.out]; exact HP2.out⟩
        case measure => simp [intOf]; omega
      | true =>
        have HYY := Lib.hid (HY.out hd)
        clear hd HN HY
        have HP3 := Lib.hid (HP2.out.later ((Below.refl w2.heap.size w2).alloc (Nat.le_refl _) (.cells #[.int .i64 k] 3)))
        have hrow := HP3.out.row
        have hnews := news_at (Box.new w2 3 #[.int .i64 (k : Int)])
        have hsz2 := HP3.out.bel.size
        clear y0 y1
        go_wp2_with (at_builtin; refine wpList_append_own_at _ rfl _ _ 60 rfl W.heap.size 3 i0 (.int .i64 0) 1 8 Tryz.underlying60 hi hz0 hz1 hz2 rfl (by decide) (.slice B M.length e0) M.length (intsC M) rfl hrow ⟨w2.heap.size, 0, none⟩ 1 1 [.int .i64 (k : Int)] rfl rfl hnews (by simp [Value.oneCell']) (by unfold maxLen; omega) (by omega) hsz2 ?_)
        intro v' w5 hown' hgrow _ _
        obtain ⟨g', cap', rfl⟩ := own_slice hown'
        have HP7 := Lib.hid (HP3.out.grow hown' hgrow)
        clear hown' hgrow hrow hnews
        go_wp2
        go_roundw
        case rel =>
          refine ⟨k + 1, g', cap', by go_num, hk, ?_, ?_⟩
          · rw [HYY.out, List.length_append]; rfl
          · rw [HYY.out, List.length_append, intsC_app]; exact HP7.out
        case measure => simp [intOf]; omega
    · have hkk : k = L.length := by omega
      subst hkk
      go_wp2_with fail
      go_ret
      exact ⟨B, e0, rfl, HP.out.row, HP.out.bel⟩
/-- A topic's partitions. -/
def prtsG (s : ByteArray) (k : Nat) : List TX := (List.range k).map fun (i : Nat) => (s, (i : Int))
theorem prtsG_len (s : ByteArray) (k : Nat) : (prtsG s k).length = k := by simp [prtsG]
theorem prtsG_succ (s : ByteArray) (k : Nat) : prtsG s (k + 1) = prtsG s k ++ [(s, (k : Int))] := by simp [prtsG, List.range_succ]
set_option maxHeartbeats 4000000 in
theorem parts_c (s : ByteArray) (n : Nat) (W : World) (hs : s.size ≤ 281474976710656) (hn : n ≤ 16) :
    Calls Tryz.prog 124 #[tpV (s, (n : Int))] W (GotP W (prtsG s n)) := by
  have HX := Lib.hid (Box.new W 162 #[.string s, .int .i64 (n : Int)])
  have HB := Lib.hid ((Below.refl W.heap.size W).alloc (Nat.le_refl _) (.cells #[.string s, .int .i64 (n : Int)] 162))
  have cc := fun w => clone_c s w hs
  have hc := fun w (h : Box w W.heap.size 162 #[.string s, .int .i64 (n : Int)]) => And.intro ((h.cell 0).trans (show _ = some (Value.string s) from rfl)) ((h.cell 1).trans (show _ = some (Value.int .i64 (n : Int)) from rfl))
  obtain ⟨i0, hi, hz0, hz1, hz2⟩ := info_parts infoPart
  obtain ⟨x0, x1⟩ := hc _ HX.out
  unfold GotP tpV tpC
  simp only [prtsG_len]
  go_enter Tryz.func124, Tryz.ntmps124
  go_wp2_with fail
  with_reducible refine (cc _).mono ?_
  rintro en w1 ⟨rfl, hb1⟩
  have HP0 : Hid (RowS W 34 2 (.slice none 0 0) 0 [] w1) := Lib.hid ⟨World.ownsRow_nil _ _ _ _, HB.out.trans (hb1.mono HB.out.size)⟩
  obtain ⟨x0', x1'⟩ := hc _ (HX.out.later hb1)
  clear x0 x1 hb1 HX HB hc cc
  go_wp2_with fail
  go_loopw [4, 5, 11] (fun a _ j wr => ∃ (k : Nat) (B : Option Addr) (e : Nat), j = .int .i64 k ∧ k ≤ n ∧ a = .slice B k e ∧ RowS W 34 2 (.slice B k e) k (prtC (prtsG s k)) wr) (fun _ _ j _ => n - (intOf j).toNat)
  case atStart => exact ⟨0, none, 0, rfl, Nat.zero_le _, rfl, HP0.out⟩
  case round =>
    obtain ⟨k, B, e0, rfl, hkl, rfl, hP⟩ := hrel
    have HP := Lib.hid hP
    clear hP HP0 x0' x1'
    by_cases hk : k < n
    · have hki : (k : Int) < (n : Int) := by omega
      have HP3 := Lib.hid (HP.out.later ((Below.refl wr.heap.size wr).alloc (Nat.le_refl _) (.cells #[.string s, .int .i64 (k : Int)] 34)))
      have hrow := HP3.out.row
      have hnews := news_at (Box.new wr 34 #[.string s, .int .i64 (k : Int)])
      have hsz2 := HP3.out.bel.size
      go_wp2_with (at_builtin; refine wpList_append_own_at _ rfl _ _ 44 rfl W.heap.size 34 i0 (.agg #[.string ⟨#[]⟩, .int .i64 0]) 2 24 Tryz.underlying44 hi hz0 hz1 hz2 rfl (by decide) (.slice B k e0) k (prtC (prtsG s k)) rfl hrow ⟨wr.heap.size, 0, none⟩ 1 1 [.string s, .int .i64 (k : Int)] rfl rfl hnews (by simp [Value.oneCell']) (by unfold maxLen; omega) (by omega) hsz2 ?_)
      intro v' w5 hown' hgrow _ _
      obtain ⟨g', cap', rfl⟩ := own_slice hown'
      have HP7 := Lib.hid (HP3.out.grow hown' hgrow)
      clear hown' hgrow hrow hnews
      go_wp2
      go_roundw
      case rel =>
        refine ⟨k + 1, g', cap', by go_num, hk, rfl, ?_⟩
        rw [prtsG_succ, prtC_app]; exact HP7.out
      case measure => simp [intOf]; omega
    · have hkk : k = n := by omega
      subst hkk
      go_wp2_with fail
      go_ret
      exact ⟨B, e0, rfl, HP.out.row, HP.out.bel⟩
/-- Shares ahead of all dealing. -/
def emptyR (L : List SX) : List (Int × Value) := L.map fun x => (x.1, .slice none 0 0)
theorem emptyR_len (L : List SX) : (emptyR L).length = L.length := by simp [emptyR]
theorem emptyR_succ {L : List SX} {k : Nat} {x : SX} (hk : L[k]? = some x) : emptyR (L.take (k + 1)) = emptyR (L.take k) ++ [(x.1, .slice none 0 0)] := by
  unfold emptyR
  rw [List.take_add_one, hk, Option.toList_some, List.map_append]; rfl
def GotE (W : World) (L : List SX) (e : Ending) (w' : World) : Prop := ∃ A c, e = .returned (.slice A L.length c) ∧ w'.ownsRow W.heap.size 147 2 (.slice A L.length c) L.length (shC (emptyR L)) ∧ Below W.heap.size W w'
set_option maxHeartbeats 4000000 in
theorem empty_c (L : List SX) (A : Option Addr) (c : Nat) (W : World) (hH : SbIn W A L) (hl : L.length ≤ 1000) :
    Calls Tryz.prog 122 #[.slice A L.length c] W (GotE W L) := by
  have HH := Lib.hid hH
  have HR0 := Lib.hid (RowS.start W 147 2)
  obtain ⟨i0, hi, hz0, hz1, hz2⟩ := info_parts infoShare
  clear hH
  unfold GotE
  go_enter Tryz.func122, Tryz.ntmps122
  go_wp2_with fail
  go_loopw [3, 8] (fun a j wr => ∃ (k : Nat) (B : Option Addr) (e : Nat), j = .int .i64 k ∧ k ≤ L.length ∧ a = .slice B k e ∧ RowS W 147 2 (.slice B k e) k (shC (emptyR (L.take k))) wr) (fun _ j _ => L.length - (intOf j).toNat)
  case atStart => exact ⟨0, none, 0, rfl, Nat.zero_le _, rfl, HR0.out⟩
  case round =>
    obtain ⟨k, B, e0, rfl, hkl, rfl, hP⟩ := hrel
    have HP := Lib.hid hP
    clear hP HR0
    by_cases hk : k < L.length
    · have hx : L[k]? = some L[k] := List.getElem?_eq_getElem hk
      obtain ⟨b, off, rfl, hlt, y0, y1, y2⟩ := (HH.out.below HP.out.bel).at_ hk
      have HY := Lib.hid (emptyR_succ hx)
      have hki : (k : Int) < (L.length : Int) := by omega
      clear hx y2
      generalize L[k] = x at *
      have HP3 := Lib.hid ((HP.out.later ((Below.refl wr.heap.size wr).alloc (Nat.le_refl _) (.cells #[.int .i64 x.1, .slice x.2.2.1 x.2.1.length x.2.2.2] 142))).later ((Below.refl _ _).alloc (Nat.le_refl _) (.cells #[.int .i64 x.1, .slice none 0 0] 147)))
      have hrow := HP3.out.row
      have hnews := news_at (Box.new (wr.alloc (.cells #[.int .i64 x.1, .slice x.2.2.1 x.2.1.length x.2.2.2] 142)) 147 #[.int .i64 x.1, .slice none 0 0])
      rw [show (wr.alloc (.cells #[.int .i64 x.1, .slice x.2.2.1 x.2.1.length x.2.2.2] 142)).heap.size = wr.heap.size + 1 by simp] at hnews
      have hsz2 := HP3.out.bel.size
      go_wp2_with (at_builtin; refine wpList_append_own_at _ rfl _ _ 143 rfl W.heap.size 147 i0 (.agg #[.int .i64 0, .slice none 0 0]) 2 32 Tryz.underlying143 hi hz0 hz1 hz2 rfl (by decide) (.slice B k e0) k (shC (emptyR (L.take k))) rfl hrow ⟨wr.heap.size + 1, 0, none⟩ 1 1 [.int .i64 x.1, .slice none 0 0] rfl rfl hnews (by simp [Value.oneCell']) (by unfold maxLen; omega) (by omega) hsz2 ?_)
      intro v' w5 hown' hgrow _ _
      obtain ⟨g', cap', rfl⟩ := own_slice hown'
      have HP7 := Lib.hid (HP3.out.grow hown' hgrow)
      clear hown' hgrow hrow hnews
      go_wp2
      go_roundw
      case rel =>
        refine ⟨k + 1, g', cap', by go_num, hk, rfl, ?_⟩
        rw [HY.out, shC_app]; exact HP7.out
      case measure => simp [intOf]; omega
    · have hkk : k = L.length := by omega
      subst hkk
      have HP' := HP.out.row
      rw [List.take_length] at HP'
      have HQ := Lib.hid HP'
      clear HP'
      go_wp2_with fail
      go_ret
      exact ⟨B, e0, rfl, HQ.out, HP.out.bel⟩
set_option maxHeartbeats 4000000 in
theorem rempty_c (L : List SX) (A : Option Addr) (c : Nat) (W : World) (hH : SbIn W A L) (hl : L.length ≤ 1000) :
    Calls Tryz.prog 117 #[.slice A L.length c] W (GotE W L) := by
  have HH := Lib.hid hH
  have HR0 := Lib.hid (RowS.start W 147 2)
  obtain ⟨i0, hi, hz0, hz1, hz2⟩ := info_parts infoShare
  clear hH
  unfold GotE
  go_enter Tryz.func117, Tryz.ntmps117
  go_wp2_with fail
  go_loopw [3, 4] (fun a j wr => ∃ (k : Nat) (B : Option Addr) (e : Nat), j = .int .i64 k ∧ k ≤ L.length ∧ a = .slice B k e ∧ RowS W 147 2 (.slice B k e) k (shC (emptyR (L.take k))) wr) (fun _ j _ => L.length - (intOf j).toNat)
  case atStart => exact ⟨0, none, 0, rfl, Nat.zero_le _, rfl, HR0.out⟩
  case round =>
    obtain ⟨k, B, e0, rfl, hkl, rfl, hP⟩ := hrel
    have HP := Lib.hid hP
    clear hP HR0
    by_cases hk : k < L.length
    · have hx : L[k]? = some L[k] := List.getElem?_eq_getElem hk
      obtain ⟨b, off, rfl, hlt, y0, y1, y2⟩ := (HH.out.below HP.out.bel).at_ hk
      have HY := Lib.hid (emptyR_succ hx)
      have hki : (k : Int) < (L.length : Int) := by omega
      clear hx y2
      generalize L[k] = x at *
      have HP3 := Lib.hid (HP.out.later ((Below.refl wr.heap.size wr).alloc (Nat.le_refl _) (.cells #[.int .i64 x.1, .slice none 0 0] 147)))
      have hrow := HP3.out.row
      have hnews := news_at (Box.new wr 147 #[.int .i64 x.1, .slice none 0 0])
      have hsz2 := HP3.out.bel.size
      go_wp2_with (at_builtin; refine wpList_append_own_at _ rfl _ _ 143 rfl W.heap.size 147 i0 (.agg #[.int .i64 0, .slice none 0 0]) 2 32 Tryz.underlying143 hi hz0 hz1 hz2 rfl (by decide) (.slice B k e0) k (shC (emptyR (L.take k))) rfl hrow ⟨wr.heap.size, 0, none⟩ 1 1 [.int .i64 x.1, .slice none 0 0] rfl rfl hnews (by simp [Value.oneCell']) (by unfold maxLen; omega) (by omega) hsz2 ?_)
      intro v' w5 hown' hgrow _ _
      obtain ⟨g', cap', rfl⟩ := own_slice hown'
      have HP7 := Lib.hid (HP3.out.grow hown' hgrow)
      clear hown' hgrow hrow hnews
      go_wp2
      go_roundw
      case rel =>
        refine ⟨k + 1, g', cap', by go_num, hk, rfl, ?_⟩
        rw [HY.out, shC_app]; exact HP7.out
      case measure => simp [intOf]; omega
    · have hkk : k = L.length := by omega
      subst hkk
      have HP' := HP.out.row
      rw [List.take_length] at HP'
      have HQ := Lib.hid HP'
      clear HP'
      go_wp2_with fail
      go_ret
      exact ⟨B, e0, rfl, HQ.out, HP.out.bel⟩
end Go.Proofs.YtlokhhjhckiloaaGreat
