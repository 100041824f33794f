/- The first header of a name, the program's and the document's; a copy of a record; whether two are the same; by contracts. -/
import Derived.Test.YtogfakcnjoilfaaRecDec2
import Derived.Test.YtogfakcnjoilfaaPTake
import Derived.RegionTactic
import Derived.BigQuiet
import Derived.Deep.QuietTactic
import Derived.Deep.DeepCutAuto
namespace Go.Proofs.Ytogfakcnjoilfaa
open Go.RowKit
set_option linter.unusedVariables false
/-- What Header hands back. -/
def headerG (hs : List Hd) (n : ByteArray) : ByteArray × Bool := match hs.find? (fun h => h.1 = n) with
  | some h => (h.2, true)
  | none => (⟨#[]⟩, false)
def Sb (x : ByteArray) (b : Bool) : Value := .tuple #[.string x, .bool b]
theorem str_same (a b : ByteArray) : (a.toList == b.toList) = decide (a = b) := by
  rw [Bool.eq_iff_iff, beq_iff_eq, decide_eq_true_eq, ByteArray.toList_eq, ByteArray.toList_eq]
  constructor
  · intro h; exact ByteArray.ext (Array.ext' h)
  · rintro rfl; rfl
structure SeekAt (W : World) (hs : List Hd) (n : ByteArray) (cs : Array Value) (k : Nat) (wr : World) : Prop where
  le : k ≤ hs.length
  no : ∀ h ∈ hs.take k, h.1 ≠ n
  bel : Below W.heap.size W wr
  box : Box wr W.heap.size 24 cs
theorem headerG_none {hs : List Hd} {n : ByteArray} (h : ∀ x ∈ hs, x.1 ≠ n) : headerG hs n = (⟨#[]⟩, false) := by
  unfold headerG
  rw [List.find?_eq_none.2 (fun x hx => by simpa using h x hx)]
theorem headerG_some {hs : List Hd} {n : ByteArray} {k : Nat} (hk : k < hs.length) (h : ∀ x ∈ hs.take k, x.1 ≠ n) (he : hs[k].1 = n) : headerG hs n = (hs[k].2, true) := by
  unfold headerG
  have h1 : hs.find? (fun h => decide (h.1 = n)) = some hs[k] := by
    rw [List.find?_eq_some_iff_append]
    refine ⟨by simpa using he, hs.take k, hs.drop (k + 1), ?_, fun x hx => by simpa using h x hx⟩
    rw [← List.drop_eq_getElem_cons hk, List.take_append_drop]
  rw [h1]
theorem take_no {hs : List Hd} {n : ByteArray} {k : Nat} (hk : k < hs.length) (h : ∀ x ∈ hs.take k, x.1 ≠ n) (he : hs[k].1 ≠ n) : ∀ x ∈ hs.take (k + 1), x.1 ≠ n := by
  intro x hx
  rw [List.take_succ_eq_append_getElem hk, List.mem_append] at hx
  rcases hx with hx | hx
  · exact h x hx
  · have : x = hs[k] := by simpa using hx
    rw [this]; exact he
set_option maxHeartbeats 2000000 in
set_option maxRecDepth 100000 in
theorem phead_c (r : Rec) (A : Option Addr) (c : Nat) (n : ByteArray) (W : World) (hR : RIn W r A c) (hv : ∀ h ∈ r.heads, h.2.size ≤ 281474976710656) :
    Calls Try.prog 20 #[recV r A c, .string n] W (Good W (Sb (headerG r.heads n).1 (headerG r.heads n).2)) := by
  obtain ⟨place, time, bare, key, gone, value, heads⟩ := r
  have hl : heads.length ≤ 140737488351232 := hR.len
  have HH := Lib.hid hR.heads
  simp only at HH
  clear hR
  unfold recV recC Sb
  simp only at *
  have hst : SeekAt W heads n #[.int .i64 place, .int .i64 time, .bool bare, .string key, .bool gone, .string value, .slice A heads.length c] 0 (W.alloc (.cells #[.int .i64 place, .int .i64 time, .bool bare, .string key, .bool gone, .string value, .slice A heads.length c] 24)) :=
    ⟨Nat.zero_le _, fun h hh => by simp at hh, (Below.refl _ _).alloc (Nat.le_refl _) _, Box.new _ _ _⟩
  have HST := Lib.hid hst
  clear hst
  have HG : Hid (headerG heads n = headerG heads n) := Lib.hid rfl
  generalize hG : headerG heads n = G at *
  have HGG := Lib.hid hG
  clear hG HG
  go_enter Try.func20, Try.ntmps20
  go_wp2
  go_loopw [7, 11] (fun x i wr => ∃ k : Nat, i = .int .i64 k ∧ SeekAt W heads n #[.int .i64 place, .int .i64 time, .bool bare, .string key, .bool gone, .string value, .slice A heads.length c] k wr) (fun _ i _ => heads.length - (intOf i).toNat)
  case atStart => exact ⟨0, rfl, HST.out⟩
  case round =>
    obtain ⟨k, rfl, hS⟩ := hrel
    have hle := hS.le
    clear HST
    by_cases hk : k < heads.length
    · obtain ⟨b, off, rfl, hbl, q1, q2⟩ := (HH.out.below hS.bel).at_ hk
      have hsz := hv _ (List.getElem_mem hk)
      have hcl := fun w => clone_c heads[k].2 w hsz
      have HS := Lib.hid hS
      clear hS hv
      by_cases he : heads[k].1 = n
      · have HF := Lib.hid (headerG_some hk HS.out.no he)
        have e1 : (heads[k].1.toList == n.toList) = true := by rw [str_same]; exact decide_eq_true he
        clear he
        generalize heads[k].1 = x1 at *
        generalize heads[k].2 = x2 at *
        go_wp2_with fail
        (with_reducible refine (hcl _).mono ?_)
        rintro e w1 ⟨rfl, hb1⟩
        go_wp2
        go_ret2
        have hG : G = (x2, true) := by rw [← HGG.out, HF.out]
        rw [hG]
        exact ⟨rfl, bjoin (HS.out.bel.alloc HS.out.bel.size _) hb1 rfl rfl⟩
      · have HN := Lib.hid (take_no hk HS.out.no he)
        have e1 : (heads[k].1.toList == n.toList) = false := by rw [str_same]; exact decide_eq_false he
        clear he
        generalize heads[k].1 = x1 at *
        generalize heads[k].2 = x2 at *
        go_wp2
        go_roundw
        case rel => exact ⟨k + 1, by go_num, hk, HN.out, HS.out.bel.alloc HS.out.bel.size _, HS.out.box.alloc _⟩
        case measure => simp [intOf]; omega
    · have hG : G = (⟨#[]⟩, false) := by rw [← HGG.out, headerG_none (fun x hx => hS.no x (by rw [List.take_of_length_le (by omega)]; exact hx))]
      have HF := Lib.hid hG
      have hb := hS.bel
      clear hS hG
      go_wp2
      go_ret2
      rw [HF.out]
      exact ⟨rfl, hb⟩
set_option maxHeartbeats 2000000 in
set_option maxRecDepth 100000 in
theorem rhead_c (r : Rec) (A : Option Addr) (c : Nat) (n : ByteArray) (W : World) (hR : RIn W r A c) :
    Calls Try.prog 21 #[recV r A c, .string n] W (Good W (Sb (headerG r.heads n).1 (headerG r.heads n).2)) := by
  obtain ⟨place, time, bare, key, gone, value, heads⟩ := r
  have hl : heads.length ≤ 140737488351232 := hR.len
  have HH := Lib.hid hR.heads
  simp only at HH
  clear hR
  unfold recV recC Sb
  simp only at *
  have hst : SeekAt W heads n #[.int .i64 place, .int .i64 time, .bool bare, .string key, .bool gone, .string value, .slice A heads.length c] 0 (W.alloc (.cells #[.int .i64 place, .int .i64 time, .bool bare, .string key, .bool gone, .string value, .slice A heads.length c] 24)) :=
    ⟨Nat.zero_le _, fun h hh => by simp at hh, (Below.refl _ _).alloc (Nat.le_refl _) _, Box.new _ _ _⟩
  have HST := Lib.hid hst
  clear hst
  generalize hG : headerG heads n = G at *
  have HGG := Lib.hid hG
  clear hG
  go_enter Try.func21, Try.ntmps21
  go_wp2
  go_loopw [6] (fun i wr => ∃ k : Nat, i = .int .i64 k ∧ SeekAt W heads n #[.int .i64 place, .int .i64 time, .bool bare, .string key, .bool gone, .string value, .slice A heads.length c] k wr) (fun i _ => heads.length - (intOf i).toNat)
  case atStart => exact ⟨0, rfl, HST.out⟩
  case round =>
    obtain ⟨k, rfl, hS⟩ := hrel
    have hle := hS.le
    have hbx := (hS.box.cell 6).trans (show _ = some (Value.slice A heads.length c) from rfl)
    clear HST
    by_cases hk : k < heads.length
    · obtain ⟨b, off, rfl, hbl, q1, q2⟩ := (HH.out.below hS.bel).at_ hk
      have HS := Lib.hid hS
      clear hS
      by_cases he : heads[k].1 = n
      · have HF := Lib.hid (headerG_some hk HS.out.no he)
        have e1 : (heads[k].1.toList == n.toList) = true := by rw [str_same]; exact decide_eq_true he
        clear he
        generalize heads[k].1 = x1 at *
        generalize heads[k].2 = x2 at *
        go_wp2
        go_ret2
        have hG : G = (x2, true) := by rw [← HGG.out, HF.out]
        rw [hG]
        exact ⟨rfl, HS.out.bel⟩
      · have HN := Lib.hid (take_no hk HS.out.no he)
        have e1 : (heads[k].1.toList == n.toList) = false := by rw [str_same]; exact decide_eq_false he
        clear he
        generalize heads[k].1 = x1 at *
        generalize heads[k].2 = x2 at *
        go_wp2
        go_roundw
        case rel => exact ⟨k + 1, by go_num, hk, HN.out, HS.out.bel, HS.out.box⟩
        case measure => simp [intOf]; omega
    · have hG : G = (⟨#[]⟩, false) := by rw [← HGG.out, headerG_none (fun x hx => hS.no x (by rw [List.take_of_length_le (by omega)]; exact hx))]
      have HF := Lib.hid hG
      have hb := hS.bel
      clear hS hG
      go_wp2
      go_ret2
      rw [HF.out]
      exact ⟨rfl, hb⟩
theorem hin_cells {w : World} {b off : Nat} {hs : List Hd} (h : HIn w (some ⟨b, off, none⟩) hs) : ∀ j u, (headCells hs)[j]? = some u → w.cell? ((⟨b, off, none⟩ : Addr).add j) = some u := by
  intro j u hj
  have hl : j < (headCells hs).length := (List.getElem?_eq_some_iff.1 hj).1
  rw [headCells_len] at hl
  obtain ⟨b', off', e, _, hc⟩ := h (by omega)
  injection e with e
  injection e with e1 e2 _
  subst e1
  subst e2
  have hi : j / 2 < hs.length := by omega
  obtain ⟨q1, q2⟩ := hc (j / 2) _ (List.getElem?_eq_getElem hi)
  obtain ⟨p1, p2⟩ := headCells_at (List.getElem?_eq_getElem hi)
  have ea : (⟨b, off, none⟩ : Addr).add j = ⟨b, off + j, none⟩ := by unfold Addr.add; split <;> simp_all
  rw [ea]
  rcases (by omega : j = j / 2 * 2 ∨ j = j / 2 * 2 + 1) with e | e
  · rw [e] at hj
    rw [p1] at hj
    rw [e, q1]
    exact hj
  · rw [e] at hj
    rw [p2] at hj
    rw [e, show off + (j / 2 * 2 + 1) = off + j / 2 * 2 + 1 by omega, q2]
    exact hj
theorem headCells_one (hs : List Hd) : ∀ u ∈ headCells hs, u.oneCell' = true := by
  intro u hu
  simp only [headCells, List.mem_flatMap] at hu
  obtain ⟨h, _, hm⟩ := hu
  simp at hm
  rcases hm with rfl | rfl <;> rfl
/-- A copy of a record: the same fields, its headers in new memory. -/
def Copied (W : World) (r : Rec) (e : Ending) (w' : World) : Prop := ∃ A c, e = .returned (recV r A c) ∧ HIn w' A r.heads ∧ Below W.heap.size W w'
theorem copy_result {w : World} (g : Nat) {v0 v1 v2 v3 v4 v5 v6 : Value} (h : Box w g 24 #[v0, v1, v2, v3, v4, v5, v6]) (tmps : Array Value) (ht : (tmps[2]?).getD undef = .pointer (some ⟨g, 0, none⟩)) :
    (results Try.f12 tmps).run Try.prog w = .ok (.agg #[v0, v1, v2, v3, v4, v5, v6]) w := by
  have c0 := (h.cell 0).trans (show _ = some v0 from rfl)
  have c1 := (h.cell 1).trans (show _ = some v1 from rfl)
  have c2 := (h.cell 2).trans (show _ = some v2 from rfl)
  have c3 := (h.cell 3).trans (show _ = some v3 from rfl)
  have c4 := (h.cell 4).trans (show _ = some v4 from rfl)
  have c5 := (h.cell 5).trans (show _ = some v5 from rfl)
  have c6 := (h.cell 6).trans (show _ = some v6 from rfl)
  simp [results, Try.results12, go_sem, ht, c0, c1, c2, c3, c4, c5, c6]
set_option maxHeartbeats 2000000 in
set_option maxRecDepth 100000 in
theorem rcopy_c (r : Rec) (A : Option Addr) (c : Nat) (W : World) (hR : RIn W r A c) (hc : r.heads.length ≤ 1000) :
    Calls Try.prog 12 #[recV r A c] W (Copied W r) := by
  obtain ⟨place, time, bare, key, gone, value, heads⟩ := r
  have HH := Lib.hid hR.heads
  simp only at HH
  clear hR
  unfold recV recC
  simp only at *
  have HB2 := Lib.hid ((Box.new ((W.alloc (.cells #[.int .i64 place, .int .i64 time, .bool bare, .string key, .bool gone, .string value, .slice A heads.length c] 24)).alloc (.cells #[.int .i64 0, .int .i64 0, .bool false, .string ⟨#[]⟩, .bool false, .string ⟨#[]⟩, .slice none 0 0] 24)) 24 #[.int .i64 place, .int .i64 time, .bool bare, .string key, .bool gone, .string value, .slice none 0 0]))
  have HB1 := Lib.hid ((Box.new (W.alloc (.cells #[.int .i64 place, .int .i64 time, .bool bare, .string key, .bool gone, .string value, .slice A heads.length c] 24)) 24 #[.int .i64 0, .int .i64 0, .bool false, .string ⟨#[]⟩, .bool false, .string ⟨#[]⟩, .slice none 0 0]).alloc (.cells #[.int .i64 place, .int .i64 time, .bool bare, .string key, .bool gone, .string value, .slice none 0 0] 24))
  have hbel := Lib.hid ((((Below.refl W.heap.size W).alloc (Nat.le_refl _) (.cells #[.int .i64 place, .int .i64 time, .bool bare, .string key, .bool gone, .string value, .slice A heads.length c] 24)).alloc (by simp) (.cells #[.int .i64 0, .int .i64 0, .bool false, .string ⟨#[]⟩, .bool false, .string ⟨#[]⟩, .slice none 0 0] 24)).alloc (by simp; omega) (.cells #[.int .i64 place, .int .i64 time, .bool bare, .string key, .bool gone, .string value, .slice none 0 0] 24))
  simp only [World.size_alloc] at HB1 HB2
  obtain ⟨i0, hi, hz0, hz1, hz2⟩ := info_parts infoHeader
  cases A with
  | none =>
    have hnil : heads = [] := by
      cases heads with
      | nil => rfl
      | cons x l =>
        obtain ⟨b, off, e, _⟩ := HH.out (by simp)
        cases e
    subst hnil
    go_enter Try.func12, Try.ntmps12
    have happ : ∀ w : World, (Builtin.append_ #[22, 22] 22 #[.slice none 0 0, .slice none 0 c]).run Try.prog w = .ok (.slice none 0 0) w := fun w => by
      simp [Builtin.append_, run_underlying Try.underlying22, sizeOf, typeInfo, hi, Builtin.lenOf, Builtin.firstCells]
    go_wp2
    refine bodyPost_ret (v := .agg #[.int .i64 place, .int .i64 time, .bool bare, .string key, .bool gone, .string value, .slice none 0 0]) (by simp [results, Try.results12, go_sem]) rfl ⟨none, 0, rfl, HIn.nil _ _, ?_⟩
    exact (((Below.refl _ _).alloc (Nat.le_refl _) _).alloc (by simp) _).alloc (by simp; omega) _
  | some a =>
    have hnews : Hid (∀ j u, (headCells heads)[j]? = some u → ((((W.alloc (.cells #[.int .i64 place, .int .i64 time, .bool bare, .string key, .bool gone, .string value, .slice (some a) heads.length c] 24)).alloc (.cells #[.int .i64 0, .int .i64 0, .bool false, .string ⟨#[]⟩, .bool false, .string ⟨#[]⟩, .slice none 0 0] 24)).alloc (.cells #[.int .i64 place, .int .i64 time, .bool bare, .string key, .bool gone, .string value, .slice none 0 0] 24))).cell? (a.add j) = some u) := Lib.hid (by
      intro j u hj
      have hl : j < (headCells heads).length := (List.getElem?_eq_some_iff.1 hj).1
      rw [headCells_len] at hl
      obtain ⟨b, off, e, hb, _⟩ := HH.out (by omega)
      injection e with e
      subst e
      exact hin_cells (HH.out.below ((((Below.refl _ _).alloc (Nat.le_refl _) _).alloc (by simp) _).alloc (by simp; omega) _)) j u hj)
    have hlen := headCells_len heads
    have HLN := Lib.hid hlen
    clear hlen
    go_enter Try.func12, Try.ntmps12
    go_wp2_with (at_builtin; refine wpList_append_own _ rfl _ _ 22 rfl W.heap.size 53 i0 (.agg #[.string ⟨#[]⟩, .string ⟨#[]⟩]) 2 32 Try.underlying22 hi hz0 hz1 hz2 rfl (by decide) _ _ _ rfl (World.ownsRow_nil _ _ _ _) a heads.length c (headCells heads) rfl HLN.out hnews.out ?c2 ?c3 ?c4 ?c5 ?_)
    case c2 => exact headCells_one heads
    case c3 => unfold maxLen; omega
    case c4 => omega
    case c5 => simp; omega
    intro v' w1 hown hgrow _
    obtain ⟨A1, c1, hv⟩ := own_slice hown
    subst hv
    have B1 := Lib.hid (HB1.out.kept_by hgrow (.inl rfl))
    have B2 := Lib.hid (HB2.out.kept_by hgrow (.inl rfl))
    have hb1 := Lib.hid (hbel.out.grown hgrow (by simp; omega) (fun k hk => by cases hk))
    have HO := Lib.hid hown
    clear hown hgrow
    have y0 : w1.cell? ⟨W.heap.size + 1 + 1, 0, none⟩ = some (.int .i64 place) := (B2.out.cell 0).trans rfl
    have y1 : w1.cell? ⟨W.heap.size + 1 + 1, 1, none⟩ = some (.int .i64 time) := (B2.out.cell 1).trans rfl
    have y2 : w1.cell? ⟨W.heap.size + 1 + 1, 2, none⟩ = some (.bool bare) := (B2.out.cell 2).trans rfl
    have y3 : w1.cell? ⟨W.heap.size + 1 + 1, 3, none⟩ = some (.string key) := (B2.out.cell 3).trans rfl
    have y4 : w1.cell? ⟨W.heap.size + 1 + 1, 4, none⟩ = some (.bool gone) := (B2.out.cell 4).trans rfl
    have y5 : w1.cell? ⟨W.heap.size + 1 + 1, 5, none⟩ = some (.string value) := (B2.out.cell 5).trans rfl
    have y6 : w1.cell? ⟨W.heap.size + 1 + 1, 6, none⟩ = some (.slice none 0 0) := (B2.out.cell 6).trans rfl
    have r0 : w1.cell? ⟨W.heap.size + 1, 0, none⟩ = some (.int .i64 0) := (B1.out.cell 0).trans rfl
    have g0 := B1.out.frozen 0
    have r1 : w1.cell? ⟨W.heap.size + 1, 1, none⟩ = some (.int .i64 0) := (B1.out.cell 1).trans rfl
    have g1 := B1.out.frozen 1
    have r2 : w1.cell? ⟨W.heap.size + 1, 2, none⟩ = some (.bool false) := (B1.out.cell 2).trans rfl
    have g2 := B1.out.frozen 2
    have r3 : w1.cell? ⟨W.heap.size + 1, 3, none⟩ = some (.string ⟨#[]⟩) := (B1.out.cell 3).trans rfl
    have g3 := B1.out.frozen 3
    have r4 : w1.cell? ⟨W.heap.size + 1, 4, none⟩ = some (.bool false) := (B1.out.cell 4).trans rfl
    have g4 := B1.out.frozen 4
    have r5 : w1.cell? ⟨W.heap.size + 1, 5, none⟩ = some (.string ⟨#[]⟩) := (B1.out.cell 5).trans rfl
    have g5 := B1.out.frozen 5
    have r6 : w1.cell? ⟨W.heap.size + 1, 6, none⟩ = some (.slice none 0 0) := (B1.out.cell 6).trans rfl
    have g6 := B1.out.frozen 6
    have f6 := B2.out.frozen 6
    have y0b : (w1.setCell ⟨W.heap.size + 1 + 1, 6, none⟩ (.slice A1 heads.length c1)).cell? ⟨W.heap.size + 1 + 1, 0, none⟩ = some (.int .i64 place) := ((B2.out.set 6 (.slice A1 heads.length c1)).cell 0).trans rfl
    have y1b : (w1.setCell ⟨W.heap.size + 1 + 1, 6, none⟩ (.slice A1 heads.length c1)).cell? ⟨W.heap.size + 1 + 1, 1, none⟩ = some (.int .i64 time) := ((B2.out.set 6 (.slice A1 heads.length c1)).cell 1).trans rfl
    have y2b : (w1.setCell ⟨W.heap.size + 1 + 1, 6, none⟩ (.slice A1 heads.length c1)).cell? ⟨W.heap.size + 1 + 1, 2, none⟩ = some (.bool bare) := ((B2.out.set 6 (.slice A1 heads.length c1)).cell 2).trans rfl
    have y3b : (w1.setCell ⟨W.heap.size + 1 + 1, 6, none⟩ (.slice A1 heads.length c1)).cell? ⟨W.heap.size + 1 + 1, 3, none⟩ = some (.string key) := ((B2.out.set 6 (.slice A1 heads.length c1)).cell 3).trans rfl
    have y4b : (w1.setCell ⟨W.heap.size + 1 + 1, 6, none⟩ (.slice A1 heads.length c1)).cell? ⟨W.heap.size + 1 + 1, 4, none⟩ = some (.bool gone) := ((B2.out.set 6 (.slice A1 heads.length c1)).cell 4).trans rfl
    have y5b : (w1.setCell ⟨W.heap.size + 1 + 1, 6, none⟩ (.slice A1 heads.length c1)).cell? ⟨W.heap.size + 1 + 1, 5, none⟩ = some (.string value) := ((B2.out.set 6 (.slice A1 heads.length c1)).cell 5).trans rfl
    have y6b : (w1.setCell ⟨W.heap.size + 1 + 1, 6, none⟩ (.slice A1 heads.length c1)).cell? ⟨W.heap.size + 1 + 1, 6, none⟩ = some (.slice A1 heads.length c1) := ((B2.out.set 6 (.slice A1 heads.length c1)).cell 6).trans rfl
    have r0b : (w1.setCell ⟨W.heap.size + 1 + 1, 6, none⟩ (.slice A1 heads.length c1)).cell? ⟨W.heap.size + 1, 0, none⟩ = some (.int .i64 0) := ((B1.out.far (p := ⟨W.heap.size + 1 + 1, 6, none⟩) (Nat.ne_of_lt (Nat.lt_succ_self _)) (.slice A1 heads.length c1)).cell 0).trans rfl
    have g0b := (B1.out.far (p := ⟨W.heap.size + 1 + 1, 6, none⟩) (Nat.ne_of_lt (Nat.lt_succ_self _)) (.slice A1 heads.length c1)).frozen 0
    have r1b : (w1.setCell ⟨W.heap.size + 1 + 1, 6, none⟩ (.slice A1 heads.length c1)).cell? ⟨W.heap.size + 1, 1, none⟩ = some (.int .i64 0) := ((B1.out.far (p := ⟨W.heap.size + 1 + 1, 6, none⟩) (Nat.ne_of_lt (Nat.lt_succ_self _)) (.slice A1 heads.length c1)).cell 1).trans rfl
    have g1b := (B1.out.far (p := ⟨W.heap.size + 1 + 1, 6, none⟩) (Nat.ne_of_lt (Nat.lt_succ_self _)) (.slice A1 heads.length c1)).frozen 1
    have r2b : (w1.setCell ⟨W.heap.size + 1 + 1, 6, none⟩ (.slice A1 heads.length c1)).cell? ⟨W.heap.size + 1, 2, none⟩ = some (.bool false) := ((B1.out.far (p := ⟨W.heap.size + 1 + 1, 6, none⟩) (Nat.ne_of_lt (Nat.lt_succ_self _)) (.slice A1 heads.length c1)).cell 2).trans rfl
    have g2b := (B1.out.far (p := ⟨W.heap.size + 1 + 1, 6, none⟩) (Nat.ne_of_lt (Nat.lt_succ_self _)) (.slice A1 heads.length c1)).frozen 2
    have r3b : (w1.setCell ⟨W.heap.size + 1 + 1, 6, none⟩ (.slice A1 heads.length c1)).cell? ⟨W.heap.size + 1, 3, none⟩ = some (.string ⟨#[]⟩) := ((B1.out.far (p := ⟨W.heap.size + 1 + 1, 6, none⟩) (Nat.ne_of_lt (Nat.lt_succ_self _)) (.slice A1 heads.length c1)).cell 3).trans rfl
    have g3b := (B1.out.far (p := ⟨W.heap.size + 1 + 1, 6, none⟩) (Nat.ne_of_lt (Nat.lt_succ_self _)) (.slice A1 heads.length c1)).frozen 3
    have r4b : (w1.setCell ⟨W.heap.size + 1 + 1, 6, none⟩ (.slice A1 heads.length c1)).cell? ⟨W.heap.size + 1, 4, none⟩ = some (.bool false) := ((B1.out.far (p := ⟨W.heap.size + 1 + 1, 6, none⟩) (Nat.ne_of_lt (Nat.lt_succ_self _)) (.slice A1 heads.length c1)).cell 4).trans rfl
    have g4b := (B1.out.far (p := ⟨W.heap.size + 1 + 1, 6, none⟩) (Nat.ne_of_lt (Nat.lt_succ_self _)) (.slice A1 heads.length c1)).frozen 4
    have r5b : (w1.setCell ⟨W.heap.size + 1 + 1, 6, none⟩ (.slice A1 heads.length c1)).cell? ⟨W.heap.size + 1, 5, none⟩ = some (.string ⟨#[]⟩) := ((B1.out.far (p := ⟨W.heap.size + 1 + 1, 6, none⟩) (Nat.ne_of_lt (Nat.lt_succ_self _)) (.slice A1 heads.length c1)).cell 5).trans rfl
    have g5b := (B1.out.far (p := ⟨W.heap.size + 1 + 1, 6, none⟩) (Nat.ne_of_lt (Nat.lt_succ_self _)) (.slice A1 heads.length c1)).frozen 5
    have r6b : (w1.setCell ⟨W.heap.size + 1 + 1, 6, none⟩ (.slice A1 heads.length c1)).cell? ⟨W.heap.size + 1, 6, none⟩ = some (.slice none 0 0) := ((B1.out.far (p := ⟨W.heap.size + 1 + 1, 6, none⟩) (Nat.ne_of_lt (Nat.lt_succ_self _)) (.slice A1 heads.length c1)).cell 6).trans rfl
    have g6b := (B1.out.far (p := ⟨W.heap.size + 1 + 1, 6, none⟩) (Nat.ne_of_lt (Nat.lt_succ_self _)) (.slice A1 heads.length c1)).frozen 6
    have BX := Lib.hid (B1.out.far (p := ⟨W.heap.size + 1 + 1, 6, none⟩) (Nat.ne_of_lt (Nat.lt_succ_self _)) (.slice A1 heads.length c1))
    have HO3 := Lib.hid (own_off (own_set HO.out B2.out (by decide) 6 (.slice A1 heads.length c1)).1 (set7_off _ (W.heap.size + 1) (.int .i64 place) (.int .i64 time) (.bool bare) (.string key) (.bool gone) (.string value) (.slice A1 heads.length c1)) (own_ne (own_set HO.out B2.out (by decide) 6 (.slice A1 heads.length c1)).1 BX.out (by decide)))
    go_wp2
    refine bodyPost_ret (v := .agg #[.int .i64 place, .int .i64 time, .bool bare, .string key, .bool gone, .string value, .slice A1 heads.length c1]) ?_ rfl ⟨A1, c1, rfl, hin_of_own HO3.out, ?_⟩
    · exact copy_result (W.heap.size + 1) (set7_box BX.out _ _ _ _ _ _ _) _ rfl
    · have hz := hb1.out.size
      have h2 := hb1.out.setCell (p := ⟨W.heap.size + 1 + 1, 6, none⟩) (by show W.heap.size ≤ W.heap.size + 1 + 1; omega) (.slice A1 heads.length c1)
      exact h2.trans ((set7_off _ (W.heap.size + 1) _ _ _ _ _ _ _).below h2.size (fun k hk => by omega))
end Go.Proofs.Ytogfakcnjoilfaa
