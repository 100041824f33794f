/- member: copyTexts, copyParts, by contracts. No condition but that rows are not too long. -/
import Derived.Test.YtlokhhjhckiloaaGreatMbGo
import Derived.Test.YtlokhhjhckiloaaGreatAsEmp
import Derived.Deep.RegionHeld3
import Derived.Deep.AppendLies
namespace Go.Proofs.YtlokhhjhckiloaaGreat
open Go.RowKit
set_option linter.unusedVariables false
theorem infoStr : (Tryz.prog.info? 9).map (fun i => (i.zero, i.size, i.bytes)) = some (some (.string ⟨#[]⟩), 1, 16) := by kernel_rfl
theorem strC_succ {T : List ByteArray} {k : Nat} {s : ByteArray} (h : T[k]? = some s) : strC (T.take (k + 1)) = strC (T.take k) ++ [.string s] := by
  unfold strC
  rw [List.take_add_one, h, Option.toList_some, List.map_append]; rfl
/-- A row of texts, new. -/
def GotT (W : World) (T : List ByteArray) (e : Ending) (w' : World) : Prop := ∃ A c, e = .returned (.slice A T.length c) ∧ w'.ownsRow W.heap.size 9 1 (.slice A T.length c) T.length (strC T) ∧ Below W.heap.size W w'
set_option maxHeartbeats 4000000 in
set_option maxRecDepth 100000 in
theorem ctexts_c (T : List ByteArray) (A : Option Addr) (c : Nat) (W : World) (hH : StrIn W A T) (hl : T.length ≤ 100000) (hz : ∀ s ∈ T, s.size ≤ 281474976710656) :
    Calls Tryz.prog 71 #[.slice A T.length c] W (GotT W T) := by
  have HH := Lib.hid hH
  have HR0 := Lib.hid (RowS.start W 9 1)
  obtain ⟨i0, hi, hz0, hz1, hz2⟩ := info_parts infoStr
  clear hH
  unfold GotT
  go_enter Tryz.func71, Tryz.ntmps71
  go_wp2_with fail
  go_loopw [3, 5, 8] (fun a _ j wr => ∃ (k : Nat) (B : Option Addr) (e : Nat), j = .int .i64 k ∧ k ≤ T.length ∧ a = .slice B k e ∧ RowS W 9 1 (.slice B k e) k (strC (T.take k)) wr) (fun _ _ j _ => T.length - (intOf j).toNat)
  case atStart => exact ⟨0, none, 0, rfl, Nat.zero_le _, rfl, HR0.out⟩
  case round =>
    obtain ⟨k, B, e0, rfl, hkl, rfl, hP⟩ := hrel
    have HP := Lib.hid hP
    clear hP HR0
    by_cases hk : k < T.length
    · have hx : T[k]? = some T[k] := List.getElem?_eq_getElem hk
      obtain ⟨b, off, rfl, hlt, y0⟩ := (HH.out.below HP.out.bel).at_ hk
      have HY := Lib.hid (strC_succ hx)
      have hki : (k : Int) < (T.length : Int) := by omega
      have hzk := hz _ (List.getElem_mem hk)
      clear hx hz
      generalize T[k] = s at *
      have cc := fun w => clone_c s w hzk
      go_wp2_with fail
      with_reducible refine (cc _).mono ?_
      rintro en w2 ⟨rfl, hb2⟩
      have HP3 := Lib.hid ((HP.out.later hb2).later ((Below.refl w2.heap.size w2).alloc (Nat.le_refl _) (.cells #[.string s] 9)))
      have hrow := HP3.out.row
      have hnews := news_at (Box.new w2 9 #[.string s])
      have hsz2 := HP3.out.bel.size
      clear hb2 cc y0 HP hlt
      go_wp2_with (at_builtin; refine wpList_append_own_at _ rfl _ _ 31 rfl W.heap.size 9 i0 (.string ⟨#[]⟩) 1 16 Tryz.underlying31 hi hz0 hz1 hz2 rfl (by decide) (.slice B k e0) k (strC (T.take k)) rfl hrow ⟨w2.heap.size, 0, none⟩ 1 1 [.string s] rfl rfl hnews (by simp [Value.oneCell']) (by unfold maxLen; omega) (by omega) hsz2 ?_)
      intro v' w5 hown' hgrow _ _
      obtain ⟨g', cap', rfl⟩ := own_slice hown'
      have HP7 := Lib.hid (HP3.out.grow hown' hgrow)
      clear hown' hgrow hrow hnews
      go_wp2
      go_roundw
      case rel =>
        refine ⟨k + 1, g', cap', by go_num, hk, rfl, ?_⟩
        rw [HY.out]; exact HP7.out
      case measure => simp [intOf]; omega
    · have hkk : k = T.length := by omega
      subst hkk
      have HP' := HP.out.row
      rw [List.take_length] at HP'
      have HQ := Lib.hid HP'
      clear HP'
      go_wp2_with fail
      go_ret
      exact ⟨B, e0, rfl, HQ.out, HP.out.bel⟩
theorem prtC_succ {P : List TX} {k : Nat} {x : TX} (h : P[k]? = some x) : prtC (P.take (k + 1)) = prtC (P.take k) ++ [.string x.1, .int .i64 x.2] := by
  rw [List.take_add_one, h, Option.toList_some, prtC_app]; rfl
theorem pt_later {w w' : World} {b : Nat} {u v : Value} (h : w.cell? ⟨b, 0, none⟩ = some u ∧ w.cell? ⟨b, 1, none⟩ = some v ∧ b < w.heap.size) (hb : Below w.heap.size w w') : w'.cell? ⟨b, 0, none⟩ = some u ∧ w'.cell? ⟨b, 1, none⟩ = some v ∧ b < w'.heap.size := cell2_later h hb
theorem pt_grown {w w' : World} {b : Nat} {u v : Value} {row : Option Nat} (h : w.cell? ⟨b, 0, none⟩ = some u ∧ w.cell? ⟨b, 1, none⟩ = some v ∧ b < w.heap.size) (hg : w.grownBy w' row) (hne : row ≠ some b) : w'.cell? ⟨b, 0, none⟩ = some u ∧ w'.cell? ⟨b, 1, none⟩ = some v ∧ b < w'.heap.size :=
  ⟨(hg.cell_far ⟨b, 0, none⟩ h.2.2 (fun e => hne e.symm)).trans h.1, (hg.cell_far ⟨b, 1, none⟩ h.2.2 (fun e => hne e.symm)).trans h.2.1, Nat.lt_of_lt_of_le h.2.2 hg.size⟩
set_option maxHeartbeats 8000000 in
set_option maxRecDepth 100000 in
theorem cparts_c (P : List TX) (A : Option Addr) (c : Nat) (W : World) (hH : TpIn W A P) (hl : P.length ≤ 100000) (hz : ∀ x ∈ P, x.1.size ≤ 281474976710656) :
    Calls Tryz.prog 74 #[.slice A P.length c] W (GotP W P) := by
  have HH := Lib.hid hH
  have HR0 := Lib.hid (RowS.start W 34 2)
  obtain ⟨i0, hi, hz0, hz1, hz2⟩ := info_parts infoPart
  clear hH
  unfold GotP
  go_enter Tryz.func74, Tryz.ntmps74
  go_wp2_with fail
  go_loopw [3, 8] (fun a j wr => ∃ (k : Nat) (B : Option Addr) (e : Nat), j = .int .i64 k ∧ k ≤ P.length ∧ a = .slice B k e ∧ RowS W 34 2 (.slice B k e) k (prtC (P.take k)) wr) (fun _ j _ => P.length - (intOf j).toNat)
  case atStart => exact ⟨0, none, 0, rfl, Nat.zero_le _, rfl, HR0.out⟩
  case round =>
    obtain ⟨k, B, e0, rfl, hkl, rfl, hP⟩ := hrel
    have HP := Lib.hid hP
    clear hP HR0
    by_cases hk : k < P.length
    · have hx : P[k]? = some P[k] := List.getElem?_eq_getElem hk
      obtain ⟨b, off, rfl, hlt, y0, y1⟩ := (HH.out.below HP.out.bel).at_ hk
      have HY := Lib.hid (prtC_succ hx)
      have hki : (k : Int) < (P.length : Int) := by omega
      have hzk := hz _ (List.getElem_mem hk)
      clear hx hz
      generalize P[k] = x at *
      obtain ⟨h1, h2⟩ := x
      dsimp only at *
      have j1 := fun w => clone_c h1 w hzk
      have HV := Lib.hid (HP.out.later ((Below.refl _ _).alloc (Nat.le_refl _) (.cells #[.string h1, .int .i64 h2] 34)))
      have HX := Lib.hid (Box.new wr 34 #[.string h1, .int .i64 h2])
      have hne : (Value.slice B k e0).ownBlock ≠ some wr.heap.size := fun e => absurd (HP.out.row.lt _ e).2 (Nat.lt_irrefl _)
      go_wp2_with fail
      clear y0 y1 hlt HP
      generalize wr.alloc (.cells #[.string h1, .int .i64 h2] 34) = w0 at *
      generalize wr.heap.size = n0 at *
      have hS := And.intro ((HX.out.cell 0).trans (show _ = some (Value.string h1) from rfl)) (And.intro ((HX.out.cell 1).trans (show _ = some (Value.int .i64 h2) from rfl)) HX.out.lt)
      go_region_held3 (fun w => w.cell? ⟨n0, 0, none⟩ = some (.string h1) ∧ w.cell? ⟨n0, 1, none⟩ = some (.int .i64 h2) ∧ n0 < w.heap.size)
        (first | exact pt_later hS ((Below.refl _ _).drew) | exact pt_later (by assumption) (by assumption) | exact pt_later (by assumption) hal | exact pt_grown (by assumption) hgrow5 hne)
        (first
          | ((with_reducible refine (j1 _).mono ?_); rintro en w3 ⟨rfl, hb3⟩; have HV4 := Lib.hid (((HV.out.later ((Below.refl _ _).drew)).later hb3).later ((Below.refl _ _).alloc (Nat.le_refl _) (.cells #[.string h1, .int .i64 h2] 34))); have hrow := HV4.out.row; have hnw := news_at (Box.new w3 34 #[.string h1, .int .i64 h2]); have hsz4 := HV4.out.bel.size; have hal : Below w3.heap.size w3 (w3.alloc (.cells #[.string h1, .int .i64 h2] 34)) := (Below.refl _ _).alloc (Nat.le_refl _) _)
          | (refine step_append_lies (w3.alloc (.cells #[.string h1, .int .i64 h2] 34)) rfl (.tmp 12) (.tmp 19) 44 rfl W.heap.size 34 i0 (.agg #[.string ⟨#[]⟩, .int .i64 0]) 2 24 Tryz.underlying44 hi hz0 hz1 hz2 rfl (by decide) (.slice B k e0) k (prtC (P.take k)) (by simp [Act.eval]) hrow ⟨w3.heap.size, 0, none⟩ 1 1 [.string h1, .int .i64 h2] (by simp [Act.eval]) rfl hnw (by simp [Value.oneCell']) (by decide) (by unfold maxLen; omega) (by omega) hsz4 (w3.heap.size + 1) (by simp) ?_; intro g2 cap2 w5 hown5 hgrow5 hg5 hlt5))
      all_goals have HP5 := Lib.hid (HV4.out.grow hown5 hgrow5)
      all_goals clear hown5 hgrow5 hrow hnw hal
      all_goals go_wp2_with fail
      all_goals go_roundw
      case rel =>
        refine ⟨k + 1, some ⟨g2, 0, none⟩, cap2, by go_num, hk, rfl, ?_⟩
        rw [HY.out]; exact HP5.out
      case measure => simp [intOf]; omega
    · have hkk : k = P.length := by omega
      subst hkk
      have HP' := HP.out.row
      rw [List.take_length] at HP'
      have HQ := Lib.hid HP'
      clear HP'
      go_wp2_with fail
      go_ret
      exact ⟨B, e0, rfl, HQ.out, HP.out.bel⟩
end Go.Proofs.YtlokhhjhckiloaaGreat
