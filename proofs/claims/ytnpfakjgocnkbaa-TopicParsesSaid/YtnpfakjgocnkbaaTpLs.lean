/- topic: List, by a contract. No condition but that they are not too many. -/
import Derived.Test.YtnpfakjgocnkbaaTpNm
import Derived.Test.YtnpfakjgocnkbaaTakes
namespace Go.Proofs.Ytnpfakjgocnkbaa
open Go.RowKit Go.Maps Go.ChangeMaps Go.WideMaps
set_option linter.unusedVariables false
theorem topInfo : (Try.prog.info? 76).map (fun i => (i.zero, i.size, i.bytes)) = some (some (.agg #[.string ⟨#[]⟩, .int .i64 0]), 2, 24) := by kernel_rfl
def toC (e : TE) : List Value := [.string (nmA e), .int .i64 e.parts]
def topC (F : List TE) : List Value := F.flatMap toC
theorem topC_snoc (F : List TE) (x : TE) : topC (F ++ [x]) = topC F ++ [.string (nmA x), .int .i64 x.parts] := by unfold topC; rw [List.flatMap_append]; simp [toC]
theorem take_snoc' {α : Type} {L : List α} {k : Nat} {x : α} (h : L[k]? = some x) : L.take (k + 1) = L.take k ++ [x] := by rw [List.take_add_one, h]; rfl
/-- Rows of unlike kinds are two: the one stays while the other one grows. -/
theorem row_stays {w w' : World} {B1 B2 s1 s2 n1 n2 : Nat} {t1 t2 : TypeId} {v1 v2 : Value} {xs1 xs2 : List Value} (h : w.ownsRow B1 t1 s1 v1 n1 xs1) (h2 : w.ownsRow B2 t2 s2 v2 n2 xs2) (hne : t1 ≠ t2) (hg : w.grownBy w' v2.ownBlock) : w'.ownsRow B1 t1 s1 v1 n1 xs1 := by
  refine h.kept hg ?_
  rcases h.2 with ⟨rfl, _⟩ | ⟨g, cap, cur, rfl, _, hb, _⟩
  · exact .inl rfl
  · right
    intro e
    rcases h2.2 with ⟨rfl, _⟩ | ⟨g2, cap2, cur2, rfl, _, hb2, _⟩
    · cases e
    · have : g = g2 := by simpa [Value.ownBlock] using e
      subst this
      rw [hb] at hb2
      injection hb2 with hb2
      injection hb2 with _ e2 _
      exact hne e2
/-- Between two rounds: the names in their row, what has been told. -/
structure LsI (W : World) (F : List TE) (A : Option Addr) (c : Nat) (v : Value) (k : Nat) (w : World) : Prop where
  row : w.ownsRow W.heap.size 9 1 (.slice A F.length c) F.length (nmsV F)
  out : w.ownsRow W.heap.size 76 2 v k (topC (F.take k))
  bel : Below W.heap.size W w
theorem LsI.later {W w w' : World} {F : List TE} {A : Option Addr} {c k : Nat} {v : Value} (h : LsI W F A c v k w) (hb : Below w.heap.size w w') : LsI W F A c v k w' := ⟨own_below h.row hb, own_below h.out hb, h.bel.trans (hb.mono h.bel.size)⟩
theorem LsI.drew {W w : World} {F : List TE} {A : Option Addr} {c k : Nat} {v : Value} (h : LsI W F A c v k w) : LsI W F A c v k w.drew := h.later (Below.refl _ _).drew
theorem LsI.more {W w w' : World} {F : List TE} {A : Option Addr} {c k g cap : Nat} {v : Value} {x : TE} (h : LsI W F A c v k w) (hx : F[k]? = some x) (ho : w'.ownsRow W.heap.size 76 2 (.slice (some ⟨g, 0, none⟩) (k + 1) cap) (k + 1) (topC (F.take k) ++ [.string (nmA x), .int .i64 x.parts])) (hg : w.grownBy w' v.ownBlock) :
    LsI W F A c (.slice (some ⟨g, 0, none⟩) (k + 1) cap) (k + 1) w' :=
  ⟨row_stays h.row h.out (by decide) hg, by rw [take_snoc' hx, topC_snoc]; exact ho, h.bel.grown hg h.bel.size (fun j hj => (h.out.lt j hj).1)⟩
theorem nms_cell {w : World} {base c : Nat} {F : List TE} {A : Option Addr} (hrow : w.ownsRow base 9 1 (.slice A F.length c) F.length (nmsV F)) {k : Nat} {x : TE} (hk : F[k]? = some x) :
    ∃ g cap, Value.slice A F.length c = .slice (some ⟨g, 0, none⟩) F.length cap ∧ w.cell? ⟨g, k, none⟩ = some (.string (nmA x)) := by
  have hl : k < F.length := (List.getElem?_eq_some_iff.1 hk).1
  have hrow' := hrow
  rcases hrow'.2 with ⟨hv, h0⟩ | ⟨g, cap, cur, hv, hg, hh, h4, h5, h6, h7⟩
  · omega
  · refine ⟨g, cap, hv, ?_⟩
    have hc := (hv ▸ hrow).cellAt k (by simpa using hl)
    rw [hc]
    unfold nmsV
    rw [List.getElem?_map, hk]
    rfl
/-- The one at a place is the one of its name. -/
theorem ofN_at {F : List TE} (hr : F.Pairwise fun a b => bytesBefore a.name b.name = true) {k : Nat} {x : TE} (hk : F[k]? = some x) : ofN F x.name = some x := by
  induction F generalizing k with
  | nil => cases hk
  | cons y r ih =>
    rw [List.pairwise_cons] at hr
    unfold ofN
    rw [List.find?_cons]
    cases k with
    | zero =>
      have : y = x := by simpa using hk
      subst this
      simp
    | succ k =>
      have hk' : r[k]? = some x := by simpa using hk
      have hne : y.name ≠ x.name := fun e => by
        have := hr.1 x (List.mem_of_getElem? hk')
        rw [e, Go.WideAt.bytes_irrefl] at this
        cases this
      rw [show (y.name == x.name) = false by simp [hne]]
      exact ih hr.2 hk'
theorem look_at {w : World} {p : Nat} {m : Option Nat} {n : Int} {F : List TE} (h : TbIs w p m n F) {k : Nat} {x : TE} (hk : F[k]? = some x) (hs : x.name.length ≤ maxLen) : (Instr.lookup 54 (.map m) (.string (nmA x)) false).run Try.prog w = .ok (.agg #[.int .i64 x.id, .int .i64 x.parts]) w := by
  have := look_any h (nmA x) (by rw [nmA_size]; exact hs) false
  rw [nmA_list, ofN_at h.rise hk] at this
  exact this
def ListIs (W : World) (F : List TE) (en : Ending) (w' : World) : Prop := ∃ A c, en = .returned (.slice A F.length c) ∧ w'.ownsRow W.heap.size 76 2 (.slice A F.length c) F.length (topC F) ∧ Below W.heap.size W w'
theorem list_nil (W : World) : Calls Try.prog 18 #[.pointer none] W (ListIs W []) := by
  have cn := names_nil W
  go_enter Try.func18, Try.ntmps18
  go_wp2_with fail
  with_reducible refine cn.mono ?_
  rintro en w1 ⟨v, rfl, hrow, hb⟩
  obtain ⟨A, c, rfl⟩ := own_slc hrow
  have HB := Lib.hid hb
  clear hrow hb
  rw [List.length_nil]
  go_wp2_with fail
  refine wp_loop_rounds 1 ?_
  rw [rounds_succ]
  go_wp2_with fail
  go_ret
  exact ⟨none, 0, rfl, World.ownsRow_nil _ _ _ _, HB.out⟩
theorem field_1 (a b : Int) (w : World) : (Instr.field 59 (.agg #[.int .i64 a, .int .i64 b]) 1).run Try.prog w = .ok (.int .i64 b) w := by kernel_rfl
set_option maxHeartbeats 16000000 in
set_option maxRecDepth 100000 in
theorem list_c (p : Nat) (m : Option Nat) (n : Int) (F : List TE) (W : World) (h : TbIs W p m n F) (hlen : F.length ≤ 1000000) (hN : ∀ e ∈ F, e.name.length ≤ 140737488351232) : Calls Try.prog 18 #[dp p] W (ListIs W F) := by
  have cn := names_c p m n F W h hlen
  obtain ⟨i0, hi, hz0, hz1, hz2⟩ := info_parts topInfo
  have H := Lib.hid h
  have HNM := Lib.hid hN
  unfold dp at *
  clear h hN
  go_enter Try.func18, Try.ntmps18
  go_wp2_with fail
  with_reducible refine cn.mono ?_
  rintro en w1 ⟨v, rfl, hrow, hb⟩
  obtain ⟨A, c, rfl⟩ := own_slc hrow
  have H1 : Hid (LsI W F A c (.slice none 0 0) 0 w1) := Lib.hid ⟨hrow, World.ownsRow_nil _ _ _ _, hb⟩
  clear hrow hb cn
  go_wp2_with fail
  go_loopw [3, 5, 9] (fun v _ i wr => ∃ (k : Nat) (B : Option Addr) (d : Nat), v = .slice B k d ∧ i = .int .i64 k ∧ k ≤ F.length ∧ LsI W F A c (.slice B k d) k wr) (fun _ _ i _ => F.length - (intOf i).toNat)
  case atStart => exact ⟨0, none, 0, rfl, rfl, Nat.zero_le _, H1.out⟩
  case round =>
    obtain ⟨k, B, d, rfl, rfl, hk, hI⟩ := hrel
    have HI := Lib.hid hI
    clear H1 hI
    by_cases hkl : k < F.length
    · obtain ⟨x, hx0⟩ : ∃ x, F[k]? = some x := ⟨_, List.getElem?_eq_getElem hkl⟩
      obtain ⟨g, cap, hv, hcell⟩ := nms_cell HI.out.row hx0
      injection hv with hA _ hc
      subst hA hc
      have hxn := HNM.out x (List.mem_of_getElem? hx0)
      have ccl := fun w => clone_c (nmA x) w (by rw [nmA_size]; omega)
      have HS : Hid (∀ w, Below W.heap.size W w → (w.cell? ⟨p, 1, none⟩ = some (.map m) ∧ (Instr.lookup 54 (.map m) (.string (nmA x)) false).run Try.prog w = .ok (.agg #[.int .i64 x.id, .int .i64 x.parts]) w)) := Lib.hid (fun w hb => ⟨(H.out.later hb).cells.2.1, look_at (H.out.later hb) hx0 (by unfold maxLen; omega)⟩)
      have hx := Lib.hid hx0
      have hfd : ∀ w : World, (Instr.field 59 (.agg #[.int .i64 x.id, .int .i64 x.parts]) 1).run Try.prog w = .ok (.int .i64 x.parts) w := fun w => field_1 x.id x.parts w
      have hS0 := HS.out wr.drew HI.out.drew.bel
      have hK0 : (0 : Int) ≤ (k : Int) := by omega
      have hK1 : (k : Int) < (F.length : Int) := by omega
      clear hx0 hxn
      go_wp2_with fail
      refine wp_region_held_drew (S := (fun w => w.cell? ⟨p, 1, none⟩ = some (.map m) ∧ (Instr.lookup 54 (.map m) (.string (nmA x)) false).run Try.prog w = .ok (.agg #[.int .i64 x.id, .int .i64 x.parts]) w)) (by kernel_rfl) hS0 (fun hHeld => ?_)
      refine takeW (i := 0) (v := ?v1) rfl (by kernel_rfl) (by kernel_rfl) (by kernel_rfl) (fun _ _ _ h => h) (by kernel_rfl) hHeld ?hy1 ?rest1
      case hy1 => (intro w hSw; (try dsimp only at hSw); go_simp; (try with_reducible rfl))
      try simp only [Act.put, List.setIfInBounds_toArray, List.set_cons_zero, List.set_cons_succ]
      refine takeW (i := 1) (v := ?v2) rfl (by kernel_rfl) (by kernel_rfl) (by kernel_rfl) (fun _ _ _ h => h) (by kernel_rfl) hHeld ?hy2 ?rest2
      case hy2 => (intro w hSw; (try dsimp only at hSw); go_simp; (try with_reducible rfl))
      try simp only [Act.put, List.setIfInBounds_toArray, List.set_cons_zero, List.set_cons_succ]
      refine takeW (i := 3) (v := ?v3) rfl (by kernel_rfl) (by kernel_rfl) (by kernel_rfl) (fun _ _ _ h => h) (by kernel_rfl) hHeld ?hy3 ?rest3
      case hy3 => (intro w hSw; (try dsimp only at hSw); go_simp; (try with_reducible rfl))
      try simp only [Act.put, List.setIfInBounds_toArray, List.set_cons_zero, List.set_cons_succ]
      refine takeW (i := 4) (v := ?v4) rfl (by kernel_rfl) (by kernel_rfl) (by kernel_rfl) (fun _ _ _ h => h) (by kernel_rfl) hHeld ?hy4 ?rest4
      case hy4 => (intro w hSw; (try dsimp only at hSw); go_simp; (try with_reducible rfl))
      try simp only [Act.put, List.setIfInBounds_toArray, List.set_cons_zero, List.set_cons_succ]
      refine takeW (i := 5) (v := ?v5) rfl (by kernel_rfl) (by kernel_rfl) (by kernel_rfl) (fun _ _ _ h => h) (by kernel_rfl) hHeld ?hy5 ?rest5
      case hy5 => (intro w hSw; (try dsimp only at hSw); go_simp; (try with_reducible rfl))
      try simp only [Act.put, List.setIfInBounds_toArray, List.set_cons_zero, List.set_cons_succ]
      refine takeW (i := 6) (v := ?v6) rfl (by kernel_rfl) (by kernel_rfl) (by kernel_rfl) (fun _ _ _ h => h) (by kernel_rfl) hHeld ?hy6 ?rest6
      case hy6 => (intro w hSw; (try dsimp only at hSw); go_simp; (try with_reducible rfl))
      try simp only [Act.put, List.setIfInBounds_toArray, List.set_cons_zero, List.set_cons_succ]
      refine takeW (i := 7) (v := ?v7) rfl (by kernel_rfl) (by kernel_rfl) (by kernel_rfl) (fun _ _ _ h => h) (by kernel_rfl) hHeld ?hy7 ?rest7
      case hy7 => (intro w hSw; (try dsimp only at hSw); go_simp; (try with_reducible rfl))
      try simp only [Act.put, List.setIfInBounds_toArray, List.set_cons_zero, List.set_cons_succ]
      refine takeW (i := 8) (v := ?v8) rfl (by kernel_rfl) (by kernel_rfl) (by kernel_rfl) (fun _ _ _ h => h) (by kernel_rfl) hHeld ?hy8 ?rest8
      case hy8 => (intro w hSw; (try dsimp only at hSw); go_simp; (try with_reducible rfl))
      try simp only [Act.put, List.setIfInBounds_toArray, List.set_cons_zero, List.set_cons_succ]
      refine takeW (i := 9) (v := ?v9) rfl (by kernel_rfl) (by kernel_rfl) (by kernel_rfl) (fun _ _ _ h => h) (by kernel_rfl) hHeld ?hy9 ?rest9
      case hy9 => (intro w hSw; (try dsimp only at hSw); go_simp; (try with_reducible rfl))
      try simp only [Act.put, List.setIfInBounds_toArray, List.set_cons_zero, List.set_cons_succ]
      refine wpAnyH_ready (rs := [2]) (by kernel_rfl) (by simp) ?_
      refine consL rfl (by kernel_rfl) (fun K hK => ?_) AllReadyH.nil
      go_simp
      with_reducible refine (ccl _).mono ?_
      rintro en w4 ⟨rfl, hb4⟩
      have HI4 := Lib.hid (HI.out.drew.later hb4)
      refine hK.out _ _ (HS.out _ HI4.out.bel) (fun hHeld => ?_)
      clear hK K
      try simp only [Act.put, List.setIfInBounds_toArray, List.set_cons_zero, List.set_cons_succ]
      refine takeW (i := 10) (v := ?v10) rfl (by kernel_rfl) (by kernel_rfl) (by kernel_rfl) (fun _ _ _ h => h) (by kernel_rfl) hHeld ?hy10 ?rest10
      case hy10 => (intro w hSw; (try dsimp only at hSw); go_simp; (try with_reducible rfl))
      try simp only [Act.put, List.setIfInBounds_toArray, List.set_cons_zero, List.set_cons_succ]
      refine wpAnyH_ready (rs := [11]) (by kernel_rfl) (by simp) ?_
      refine consL rfl (by kernel_rfl) (fun K hK => ?_) AllReadyH.nil
      go_simp
      have HI5 := Lib.hid (HI4.out.later ((Below.refl w4.heap.size w4).alloc (Nat.le_refl _) (.cells #[.string (nmA x), .int .i64 x.parts] 76)))
      have hrow := HI5.out.out
      have hnw := news_at (Box.new w4 76 #[.string (nmA x), .int .i64 x.parts])
      have hsz5 := HI5.out.bel.size
      refine hK.out _ _ (HS.out _ HI5.out.bel) (fun hHeld => ?_)
      clear hK K
      try simp only [Act.put, List.setIfInBounds_toArray, List.set_cons_zero, List.set_cons_succ]
      refine wpAnyH_ready (rs := [12]) (by kernel_rfl) (by simp) ?_
      refine consL rfl (by kernel_rfl) (fun K hK => ?_) AllReadyH.nil
      (refine wp_append_lies (w := (w4.alloc (.cells #[.string (nmA x), .int .i64 x.parts] 76))) (.tmp 13) (.tmp 24) 44 rfl W.heap.size 76 i0 (.agg #[.string ⟨#[]⟩, .int .i64 0]) 2 24 Try.underlying44 hi hz0 hz1 hz2 rfl (by decide) (.slice B k d) k (topC (F.take k)) (by simp [Act.eval]) hrow ⟨w4.heap.size, 0, none⟩ 1 1 [.string (nmA x), .int .i64 x.parts] (by simp [Act.eval]) rfl hnw (by simp [Value.oneCell']) (by decide) (by unfold maxLen; omega) (by omega) hsz5 _ rfl ?_)
      intro g2 cap2 w6 hown6 hgrow6 _ _
      have HI6 := Lib.hid (HI5.out.more hx.out hown6 hgrow6)
      refine hK.out _ _ (HS.out _ HI6.out.bel) (fun hHeld => ?_)
      clear hK K
      try simp only [Act.put, List.setIfInBounds_toArray, List.set_cons_zero, List.set_cons_succ]
      refine takeW (i := 13) (v := ?v11) rfl (by kernel_rfl) (by kernel_rfl) (by kernel_rfl) (fun _ _ _ h => h) (by kernel_rfl) hHeld ?hy11 ?rest11
      case hy11 => (intro w hSw; (try dsimp only at hSw); go_simp; (try with_reducible rfl))
      try simp only [Act.put, List.setIfInBounds_toArray, List.set_cons_zero, List.set_cons_succ]
      refine wpAnyH_done (by kernel_rfl) ?_ _
      go_wp2_with fail
      go_roundw
      case rel => exact ⟨k + 1, _, _, rfl, by go_num, hkl, HI6.out⟩
      case measure => simp [intOf]; omega
    · have hke : k = F.length := by omega
      subst hke
      go_wp2_with fail
      go_ret
      refine ⟨B, d, rfl, ?_, HI.out.bel⟩
      have := HI.out.out
      rwa [List.take_length] at this
end Go.Proofs.Ytnpfakjgocnkbaa
