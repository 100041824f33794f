/- match: a copy of a record, by a contract. No condition. -/
import Derived.Test.YtmnmgbbdjpfonaaDoorMtCp
import Derived.Test.YtmnmgbbdjpfonaaDoorMtPk
import Derived.Deep.RegionHeld3
import Derived.Deep.AppendLies
namespace Go.Proofs.YtmnmgbbdjpfonaaDoor
open Go.RowKit
set_option linter.unusedVariables false
/-- A copy of a record: the same fields, its headers in new memory. -/
def CopiedR (W : World) (r : Rec) (e : Ending) (w' : World) : Prop := ∃ A c, e = .returned (recV r A c) ∧ w'.ownsRow W.heap.size 42 2 (.slice A r.heads.length c) r.heads.length (headCells r.heads) ∧ Below W.heap.size W w'
/-- The two boxes of a copy. -/
structure CqS (W : World) (r : Rec) (A : Option Addr) (c : Nat) (w : World) : Prop where
  b1 : Box w W.heap.size 27 (recC r A c)
  b2 : Box w (W.heap.size + 1) 27 (liveC ⟨#[]⟩)
  bel : Below W.heap.size W w
theorem CqS.start (W : World) (r : Rec) (A : Option Addr) (c : Nat) : CqS W r A c ((W.alloc (.cells (recC r A c) 27)).alloc (.cells (liveC ⟨#[]⟩) 27)) :=
  ⟨(Box.new _ _ _).alloc _, by have h := Box.new (W.alloc (.cells (recC r A c) 27)) 27 (liveC ⟨#[]⟩); simpa using h, ((Below.refl _ _).alloc (Nat.le_refl _) _).alloc (by simp) _⟩
theorem CqS.later {W w w' : World} {r : Rec} {A : Option Addr} {c : Nat} (h : CqS W r A c w) (hb : Below w.heap.size w w') : CqS W r A c w' := ⟨h.b1.later hb, h.b2.later hb, h.bel.trans (hb.mono h.bel.size)⟩
theorem CqS.facts {W w : World} {r : Rec} {A : Option Addr} {c : Nat} (h : CqS W r A c w) : (w.cell? ⟨W.heap.size, 0, none⟩ = some (.int .i64 r.place) ∧ w.cell? ⟨W.heap.size, 1, none⟩ = some (.int .i64 r.time) ∧ w.cell? ⟨W.heap.size, 2, none⟩ = some (.bool r.bare) ∧ w.cell? ⟨W.heap.size, 3, none⟩ = some (.string r.key) ∧ w.cell? ⟨W.heap.size, 4, none⟩ = some (.bool r.gone) ∧ w.cell? ⟨W.heap.size, 5, none⟩ = some (.string r.value) ∧ w.cell? ⟨W.heap.size, 6, none⟩ = some (.slice A r.heads.length c)) ∧
    (w.frozen? ⟨W.heap.size, 3, none⟩ = false ∧ w.frozen? ⟨W.heap.size, 5, none⟩ = false ∧ w.frozen? ⟨W.heap.size, 6, none⟩ = false) ∧
    (w.setCell ⟨W.heap.size, 3, none⟩ (.string r.key) = w ∧ w.setCell ⟨W.heap.size, 5, none⟩ (.string r.value) = w) :=
  ⟨rec_cells h.b1, ⟨h.b1.frozen 3, h.b1.frozen 5, h.b1.frozen 6⟩, set_same h.b1 3 _ rfl, set_same h.b1 5 _ rfl⟩
theorem hd_later {w w' : World} {n0 : Nat} {h1 h2 : ByteArray} (h : w.cell? ⟨n0, 0, none⟩ = some (.string h1) ∧ w.cell? ⟨n0, 1, none⟩ = some (.string h2) ∧ n0 < w.heap.size) (hb : Below w.heap.size w w') : w'.cell? ⟨n0, 0, none⟩ = some (.string h1) ∧ w'.cell? ⟨n0, 1, none⟩ = some (.string h2) ∧ n0 < w'.heap.size :=
  ⟨(hb.cell (p := ⟨n0, 0, none⟩) h.2.2).trans h.1, (hb.cell (p := ⟨n0, 1, none⟩) h.2.2).trans h.2.1, Nat.lt_of_lt_of_le h.2.2 hb.size⟩
theorem hd_grown {w w' : World} {n0 : Nat} {h1 h2 : ByteArray} {row : Option Nat} (h : w.cell? ⟨n0, 0, none⟩ = some (.string h1) ∧ w.cell? ⟨n0, 1, none⟩ = some (.string h2) ∧ n0 < w.heap.size) (hg : w.grownBy w' row) (hr : row ≠ some n0) : w'.cell? ⟨n0, 0, none⟩ = some (.string h1) ∧ w'.cell? ⟨n0, 1, none⟩ = some (.string h2) ∧ n0 < w'.heap.size := by
  have hb := hg.block n0 h.2.2 (fun e => hr e.symm)
  exact ⟨(World.cell?_of_block (a := ⟨n0, 0, none⟩) hb).trans h.1, (World.cell?_of_block (a := ⟨n0, 1, none⟩) hb).trans h.2.1, Nat.lt_of_lt_of_le h.2.2 hg.size⟩
theorem CqS.last {W w : World} {r : Rec} {A : Option Addr} {c : Nat} (h : CqS W r A c w) (v : Value) :
    ((w.setCell ⟨W.heap.size, 6, none⟩ v).cell? ⟨W.heap.size, 0, none⟩ = some (.int .i64 r.place) ∧ (w.setCell ⟨W.heap.size, 6, none⟩ v).cell? ⟨W.heap.size, 1, none⟩ = some (.int .i64 r.time) ∧ (w.setCell ⟨W.heap.size, 6, none⟩ v).cell? ⟨W.heap.size, 2, none⟩ = some (.bool r.bare) ∧ (w.setCell ⟨W.heap.size, 6, none⟩ v).cell? ⟨W.heap.size, 3, none⟩ = some (.string r.key) ∧
      (w.setCell ⟨W.heap.size, 6, none⟩ v).cell? ⟨W.heap.size, 4, none⟩ = some (.bool r.gone) ∧ (w.setCell ⟨W.heap.size, 6, none⟩ v).cell? ⟨W.heap.size, 5, none⟩ = some (.string r.value) ∧ (w.setCell ⟨W.heap.size, 6, none⟩ v).cell? ⟨W.heap.size, 6, none⟩ = some v) ∧
    Box (w.setCell ⟨W.heap.size, 6, none⟩ v) (W.heap.size + 1) 27 (liveC ⟨#[]⟩) := by
  have b := h.b1.set 6 v
  exact ⟨⟨(b.cell 0).trans rfl, (b.cell 1).trans rfl, (b.cell 2).trans rfl, (b.cell 3).trans rfl, (b.cell 4).trans rfl, (b.cell 5).trans rfl, (b.cell 6).trans rfl⟩, h.b2.far (p := ⟨W.heap.size, 6, none⟩) (Nat.succ_ne_self _) v⟩
structure CqL (W : World) (r : Rec) (A : Option Addr) (c k : Nat) (v : Value) (w : World) : Prop where
  st : CqS W r A c w
  row : w.ownsRow W.heap.size 42 2 v k (headCells (r.heads.take k))
theorem CqL.later {W w w' : World} {r : Rec} {A : Option Addr} {c k : Nat} {v : Value} (h : CqL W r A c k v w) (hb : Below w.heap.size w w') : CqL W r A c k v w' := ⟨h.st.later hb, own_below h.row hb⟩
theorem CqL.grow {W w w' : World} {r : Rec} {A : Option Addr} {c k : Nat} {v v' : Value} {h1 h2 : ByteArray} (h : CqL W r A c k v w) (hk : r.heads[k]? = some (h1, h2)) (hr : w'.ownsRow W.heap.size 42 2 v' (k + 1) (headCells (r.heads.take k) ++ [.string h1, .string h2])) (hg : w.grownBy w' v.ownBlock) : CqL W r A c (k + 1) v' w' := by
  have e : headCells (r.heads.take (k + 1)) = headCells (r.heads.take k) ++ [.string h1, .string h2] := by
    rw [List.take_add_one, hk, Option.toList_some]; simp [headCells]
  refine ⟨⟨h.st.b1.kept_by hg (.inr (fun e => own_ne h.row h.st.b1 (by decide) _ e rfl)), h.st.b2.kept_by hg (.inr (fun e => own_ne h.row h.st.b2 (by decide) _ e rfl)), h.st.bel.grown hg h.st.bel.size (fun j e => (h.row.lt j e).1)⟩, by rw [e]; exact hr⟩
theorem infoHeader4 : (Tryd.prog.info? 42).map (fun i => (i.zero, i.size, i.bytes)) = some (some (.agg #[.string ⟨#[]⟩, .string ⟨#[]⟩]), 2, 32) := by kernel_rfl
set_option maxHeartbeats 8000000 in
set_option maxRecDepth 100000 in
theorem copy_c (r : Rec) (A : Option Addr) (c : Nat) (W : World) (hR : RIn W r A c) (hkz : r.key.size ≤ 1000) (hvz : r.value.size ≤ 1000) (hl : r.heads.length ≤ 1000) (hhz : ∀ x ∈ r.heads, x.1.size ≤ 1000 ∧ x.2.size ≤ 1000) :
    Calls Tryd.prog 25 #[recV r A c] W (CopiedR W r) := by
  have HC := Lib.hid (CqS.start W r A c)
  have k1 := fun w => clone_c r.key w (by omega)
  have k2 := fun w => clone_c r.value w (by omega)
  have HH := Lib.hid hR.heads
  obtain ⟨⟨x0, x1, x2, x3, x4, x5, x6⟩, ⟨f3, f5, f6⟩, s3, s5⟩ := HC.out.facts
  have hc : ∀ w, CqS W r A c w → _ := fun w h => h.facts
  obtain ⟨i0, hi, hz0, hz1, hz2⟩ := info_parts infoHeader4
  clear hR
  unfold CopiedR recV recC liveC at *
  go_enter Tryd.func25, Tryd.ntmps25
  go_wp2_with fail
  with_reducible refine (k1 _).mono ?_
  rintro en w1 ⟨rfl, hb1⟩
  have H1 := Lib.hid (HC.out.later hb1)
  clear hb1 x0 x1 x2 x3 x4 x5 x6 f3 f5 f6 s3 s5 HC k1
  obtain ⟨⟨x0, x1, x2, x3, x4, x5, x6⟩, ⟨f3, f5, f6⟩, s3, s5⟩ := hc _ H1.out
  go_wp2_with fail
  with_reducible refine (k2 _).mono ?_
  rintro en w2 ⟨rfl, hb2⟩
  have H2 := Lib.hid (H1.out.later hb2)
  clear hb2 x0 x1 x2 x3 x4 x5 x6 f3 f5 f6 s3 s5 H1 k2
  obtain ⟨⟨x0, x1, x2, x3, x4, x5, x6⟩, ⟨f3, f5, f6⟩, s3, s5⟩ := hc _ H2.out
  have HL0 : Hid (CqL W r A c 0 (.slice none 0 0) w2) := Lib.hid ⟨H2.out, World.ownsRow_nil _ _ _ _⟩
  clear H2
  go_wp2_with fail
  go_loopw [3, 17] (fun a i wr => ∃ (k : Nat) (B : Option Addr) (e : Nat), i = .int .i64 k ∧ k ≤ r.heads.length ∧ a = .slice B k e ∧ CqL W r A c k (.slice B k e) wr) (fun _ i _ => r.heads.length - (intOf i).toNat)
  case atStart => exact ⟨0, none, 0, rfl, Nat.zero_le _, rfl, HL0.out⟩
  case round =>
    obtain ⟨k, B, e0, rfl, hkl, rfl, hP⟩ := hrel
    have HP := Lib.hid hP
    clear hP HL0 x0 x1 x2 x3 x4 x5 x6 f3 f5 f6 s3 s5
    by_cases hk : k < r.heads.length
    · obtain ⟨b, off, rfl, hbl, q0, q1⟩ := (HH.out.below HP.out.st.bel).at_ hk
      have hz := hhz _ (List.getElem_mem hk)
      have hge : r.heads[k]? = some (r.heads[k].1, r.heads[k].2) := List.getElem?_eq_getElem hk
      have HG := Lib.hid (fun w w' v v' (h : CqL W r (some ⟨b, off, none⟩) c k v w) => CqL.grow (w' := w') (v' := v') h hge)
      obtain ⟨z1, z2⟩ := hz
      clear hge
      generalize r.heads[k].1 = h1 at *
      generalize r.heads[k].2 = h2 at *
      have j1 := fun w => clone_c h1 w (by omega)
      have j2 := fun w => clone_c h2 w (by omega)
      have HV := Lib.hid (HP.out.later ((Below.refl _ _).alloc (Nat.le_refl _) (.cells #[.string h1, .string h2] 42)))
      have HX := Lib.hid (Box.new wr 42 #[.string h1, .string h2])
      have hki : (k : Int) < (r.heads.length : Int) := by omega
      have hne : (Value.slice B k e0).ownBlock ≠ some wr.heap.size := fun e => absurd (HP.out.row.lt _ e).2 (Nat.lt_irrefl _)
      go_wp2_with fail
      clear q0 q1 hbl HP
      generalize wr.alloc (.cells #[.string h1, .string h2] 42) = w0 at *
      generalize wr.heap.size = n0 at *
      have hS := And.intro ((HX.out.cell 0).trans (show _ = some (Value.string h1) from rfl)) (And.intro ((HX.out.cell 1).trans (show _ = some (Value.string h2) from rfl)) HX.out.lt)
      have hkm : k + 1 ≤ 1000 := by omega
      go_region_held3 (fun w => w.cell? ⟨n0, 0, none⟩ = some (.string h1) ∧ w.cell? ⟨n0, 1, none⟩ = some (.string h2) ∧ n0 < w.heap.size)
        (first | exact hd_later hS ((Below.refl _ _).drew) | exact hd_later (by assumption) (by assumption) | exact hd_later (by assumption) hal | exact hd_grown (by assumption) hgrow5 hne)
        (first
          | ((with_reducible refine (j1 _).mono ?_); rintro en w3 ⟨rfl, hb3⟩)
          | ((with_reducible refine (j2 _).mono ?_); rintro en w4 ⟨rfl, hb4⟩; have HV4 := Lib.hid ((((HV.out.later ((Below.refl _ _).drew)).later hb3).later hb4).later ((Below.refl _ _).alloc (Nat.le_refl _) (.cells #[.string h1, .string h2] 42))); have hrow := HV4.out.row; have hnw := news_at (Box.new w4 42 #[.string h1, .string h2]); have hsz4 := HV4.out.st.bel.size; have hal : Below w4.heap.size w4 (w4.alloc (.cells #[.string h1, .string h2] 42)) := (Below.refl _ _).alloc (Nat.le_refl _) _)
          | (refine step_append_lies (w4.alloc (.cells #[.string h1, .string h2] 42)) rfl (.tmp 21) (.tmp 29) 25 rfl W.heap.size 42 i0 (.agg #[.string ⟨#[]⟩, .string ⟨#[]⟩]) 2 32 Tryd.underlying25 hi hz0 hz1 hz2 rfl (by decide) (.slice B k e0) k (headCells (r.heads.take k)) (by simp [Act.eval]) hrow ⟨w4.heap.size, 0, none⟩ 1 1 [.string h1, .string h2] (by simp [Act.eval]) rfl hnw (by simp [Value.oneCell']) (by decide) (by unfold maxLen; omega) (by omega) hsz4 (w4.heap.size + 1) (by simp) ?_; intro g2 cap2 w5 hown5 hgrow5 hg5 hlt5))
      all_goals have HP5 := Lib.hid (HG.out _ w5 _ _ HV4.out hown5 hgrow5)
      all_goals clear hown5 hgrow5 hrow hnw hal
      all_goals go_wp2_with fail
      all_goals go_roundw
      case rel => exact ⟨k + 1, some ⟨g2, 0, none⟩, cap2, by go_num, hk, rfl, HP5.out⟩
      case measure => simp [intOf]; omega
    · have hkk : k = r.heads.length := by omega
      subst hkk
      obtain ⟨⟨x0, x1, x2, x3, x4, x5, x6⟩, ⟨f3, f5, f6⟩, s3, s5⟩ := hc _ HP.out.st
      obtain ⟨⟨y0, y1, y2, y3, y4, y5, y6⟩, hb2⟩ := HP.out.st.last (.slice B r.heads.length e0)
      have HB2 := Lib.hid hb2
      have r0 := (hb2.cell 0).trans (show _ = some (Value.int .i64 0) from rfl)
      have r1 := (hb2.cell 1).trans (show _ = some (Value.int .i64 0) from rfl)
      have r2 := (hb2.cell 2).trans (show _ = some (Value.bool false) from rfl)
      have r3 := (hb2.cell 3).trans (show _ = some (Value.string ⟨#[]⟩) from rfl)
      have r4 := (hb2.cell 4).trans (show _ = some (Value.bool false) from rfl)
      have r5 := (hb2.cell 5).trans (show _ = some (Value.string ⟨#[]⟩) from rfl)
      have r6 := (hb2.cell 6).trans (show _ = some (Value.slice none 0 0) from rfl)
      have g0 := hb2.frozen 0
      have g1 := hb2.frozen 1
      have g2 := hb2.frozen 2
      have g3 := hb2.frozen 3
      have g4 := hb2.frozen 4
      have g5 := hb2.frozen 5
      have g6 := hb2.frozen 6
      clear hb2
      have HO := Lib.hid (own_off HP.out.row (Off.one wr ⟨W.heap.size, 6, none⟩ (.slice B r.heads.length e0)) (own_ne HP.out.row HP.out.st.b1 (by decide)))
      have HBL := Lib.hid (HP.out.st.bel.setCell (p := ⟨W.heap.size, 6, none⟩) (Nat.le_refl _) (.slice B r.heads.length e0))
      rw [List.take_length] at HO
      clear HP
      go_wp2_with fail
      refine bodyPost_ret (v := .agg #[.int .i64 r.place, .int .i64 r.time, .bool r.bare, .string r.key, .bool r.gone, .string r.value, .slice B r.heads.length e0]) ?_ rfl ⟨B, e0, rfl, ?_, ?_⟩
      · exact cpr_result (W.heap.size + 1) (set7_box HB2.out _ _ _ _ _ _ _) _ rfl
      · exact own_off HO.out (set7_off _ (W.heap.size + 1) _ _ _ _ _ _ _) (own_ne HO.out HB2.out (by decide))
      · exact HBL.out.trans ((set7_off _ (W.heap.size + 1) _ _ _ _ _ _ _).below HBL.out.size (fun k hk => by omega))
end Go.Proofs.YtmnmgbbdjpfonaaDoor
