/- topic: the document's List, by a contract. No condition but that they are not too many. -/
import Derived.Test.YtnpfakjgocnkbaaTpRt
import Derived.Test.YtnpfakjgocnkbaaTakes
namespace Go.Proofs.Ytnpfakjgocnkbaa
open Go.RowKit
set_option linter.unusedVariables false
structure RlI (W : World) (F : List TE) (v : Value) (k : Nat) (w : World) : Prop where
  out : w.ownsRow W.heap.size 76 2 v k (topC (F.take k))
  bel : Below W.heap.size W w
theorem RlI.later {W w w' : World} {F : List TE} {k : Nat} {v : Value} (h : RlI W F v k w) (hb : Below w.heap.size w w') : RlI W F v k w' := ⟨own_below h.out hb, h.bel.trans (hb.mono h.bel.size)⟩
theorem RlI.drew {W w : World} {F : List TE} {k : Nat} {v : Value} (h : RlI W F v k w) : RlI W F v k w.drew := h.later (Below.refl _ _).drew
theorem RlI.more {W w w' : World} {F : List TE} {k g cap : Nat} {v : Value} {x : TE} (h : RlI W F v k w) (hx : F[k]? = some x) (ho : w'.ownsRow W.heap.size 76 2 (.slice (some ⟨g, 0, none⟩) (k + 1) cap) (k + 1) (topC (F.take k) ++ [.string (nmA x), .int .i64 x.parts])) (hg : w.grownBy w' v.ownBlock) :
    RlI W F (.slice (some ⟨g, 0, none⟩) (k + 1) cap) (k + 1) w' :=
  ⟨by rw [take_snoc' hx, topC_snoc]; exact ho, h.bel.grown hg h.bel.size (fun j hj => (h.out.lt j hj).1)⟩
set_option maxHeartbeats 16000000 in
set_option maxRecDepth 100000 in
theorem rlist_c (p base : Nat) (n : Int) (F : List TE) (A : Option Addr) (c : Nat) (W : World) (h : RtIs W base p n F A c) (hlen : F.length ≤ 1000000) : Calls Try.prog 19 #[.pointer (some ⟨p, 0, none⟩)] W (ListIs W F) := by
  obtain ⟨i0, hi, hz0, hz1, hz2⟩ := info_parts topInfo
  have H := Lib.hid h
  have c1 := (h.box.cell 1).trans (show _ = some (Value.slice A F.length c) from rfl)
  have H1 : Hid (RlI W F (.slice none 0 0) 0 W) := Lib.hid ⟨World.ownsRow_nil _ _ _ _, Below.refl _ _⟩
  clear h
  go_enter Try.func19, Try.ntmps19
  go_wp2_with fail
  go_loopw [3, 4] (fun v i wr => ∃ (k : Nat) (B : Option Addr) (d : Nat), v = .slice B k d ∧ i = .int .i64 k ∧ k ≤ F.length ∧ RlI W F (.slice B k d) k wr) (fun _ i _ => F.length - (intOf i).toNat)
  case atStart => exact ⟨0, none, 0, rfl, rfl, Nat.zero_le _, H1.out⟩
  case round =>
    obtain ⟨k, B, d, rfl, rfl, hk, hI⟩ := hrel
    have HI := Lib.hid hI
    clear H1 hI c1
    have c1 := ((H.out.later HI.out.bel).box.cell 1).trans (show _ = some (Value.slice A F.length c) from rfl)
    by_cases hkl : k < F.length
    · obtain ⟨x, hx0⟩ : ∃ x, F[k]? = some x := ⟨_, List.getElem?_eq_getElem hkl⟩
      obtain ⟨g, rfl, _, z0, z1, z2, hgl, hc⟩ := rt_cell rfl H.out.row hx0
      have HS : Hid (∀ w, Below W.heap.size W w → (w.cell? ⟨p, 1, none⟩ = some (.slice (some ⟨g, 0, none⟩) F.length c) ∧ w.cell? ⟨g, k * 3, none⟩ = some (.string (nmA x)) ∧ w.cell? ⟨g, k * 3 + 2, none⟩ = some (.int .i64 x.parts))) := Lib.hid (fun w hb => ⟨((H.out.later hb).box.cell 1).trans (show _ = some (Value.slice _ F.length c) from rfl), (hb.cell hgl).trans z0, (hb.cell hgl).trans z2⟩)
      have hx := Lib.hid hx0
      have hS0 := HS.out wr.drew HI.out.drew.bel
      have hK0 : (0 : Int) ≤ (k : Int) := by omega
      have hK1 : (k : Int) < (F.length : Int) := by omega
      clear hx0 z0 z1 z2
      go_wp2_with fail
      refine wp_region_held_drew (S := (fun w => w.cell? ⟨p, 1, none⟩ = some (.slice (some ⟨g, 0, none⟩) F.length c) ∧ w.cell? ⟨g, k * 3, none⟩ = some (.string (nmA x)) ∧ w.cell? ⟨g, k * 3 + 2, none⟩ = some (.int .i64 x.parts))) (by kernel_rfl) hS0 (fun hHeld => ?_)
      refine takeW (i := 0) (v := ?v1) rfl (by kernel_rfl) (by kernel_rfl) (by kernel_rfl) (fun _ _ _ h => h) (by kernel_rfl) hHeld ?hy1 ?rest1
      case hy1 => (intro w hSw; (try dsimp only at hSw); go_simp; (try with_reducible rfl))
      try simp only [Act.put, List.setIfInBounds_toArray, List.set_cons_zero, List.set_cons_succ]
      refine takeW (i := 1) (v := ?v2) rfl (by kernel_rfl) (by kernel_rfl) (by kernel_rfl) (fun _ _ _ h => h) (by kernel_rfl) hHeld ?hy2 ?rest2
      case hy2 => (intro w hSw; (try dsimp only at hSw); go_simp; (try with_reducible rfl))
      try simp only [Act.put, List.setIfInBounds_toArray, List.set_cons_zero, List.set_cons_succ]
      refine takeW (i := 2) (v := ?v3) rfl (by kernel_rfl) (by kernel_rfl) (by kernel_rfl) (fun _ _ _ h => h) (by kernel_rfl) hHeld ?hy3 ?rest3
      case hy3 => (intro w hSw; (try dsimp only at hSw); go_simp; (try with_reducible rfl))
      try simp only [Act.put, List.setIfInBounds_toArray, List.set_cons_zero, List.set_cons_succ]
      refine takeW (i := 3) (v := ?v4) rfl (by kernel_rfl) (by kernel_rfl) (by kernel_rfl) (fun _ _ _ h => h) (by kernel_rfl) hHeld ?hy4 ?rest4
      case hy4 => (intro w hSw; (try dsimp only at hSw); go_simp; (try with_reducible rfl))
      try simp only [Act.put, List.setIfInBounds_toArray, List.set_cons_zero, List.set_cons_succ]
      refine takeW (i := 4) (v := ?v5) rfl (by kernel_rfl) (by kernel_rfl) (by kernel_rfl) (fun _ _ _ h => h) (by kernel_rfl) hHeld ?hy5 ?rest5
      case hy5 => (intro w hSw; (try dsimp only at hSw); go_simp; (try with_reducible rfl))
      try simp only [Act.put, List.setIfInBounds_toArray, List.set_cons_zero, List.set_cons_succ]
      refine takeW (i := 5) (v := ?v6) rfl (by kernel_rfl) (by kernel_rfl) (by kernel_rfl) (fun _ _ _ h => h) (by kernel_rfl) hHeld ?hy6 ?rest6
      case hy6 => (intro w hSw; (try dsimp only at hSw); go_simp; (try with_reducible rfl))
      try simp only [Act.put, List.setIfInBounds_toArray, List.set_cons_zero, List.set_cons_succ]
      refine takeW (i := 6) (v := ?v7) rfl (by kernel_rfl) (by kernel_rfl) (by kernel_rfl) (fun _ _ _ h => h) (by kernel_rfl) hHeld ?hy7 ?rest7
      case hy7 => (intro w hSw; (try dsimp only at hSw); go_simp; (try with_reducible rfl))
      try simp only [Act.put, List.setIfInBounds_toArray, List.set_cons_zero, List.set_cons_succ]
      refine takeW (i := 7) (v := ?v8) rfl (by kernel_rfl) (by kernel_rfl) (by kernel_rfl) (fun _ _ _ h => h) (by kernel_rfl) hHeld ?hy8 ?rest8
      case hy8 => (intro w hSw; (try dsimp only at hSw); go_simp; (try with_reducible rfl))
      try simp only [Act.put, List.setIfInBounds_toArray, List.set_cons_zero, List.set_cons_succ]
      refine takeW (i := 8) (v := ?v9) rfl (by kernel_rfl) (by kernel_rfl) (by kernel_rfl) (fun _ _ _ h => h) (by kernel_rfl) hHeld ?hy9 ?rest9
      case hy9 => (intro w hSw; (try dsimp only at hSw); go_simp; (try with_reducible rfl))
      try simp only [Act.put, List.setIfInBounds_toArray, List.set_cons_zero, List.set_cons_succ]
      refine takeW (i := 9) (v := ?v10) rfl (by kernel_rfl) (by kernel_rfl) (by kernel_rfl) (fun _ _ _ h => h) (by kernel_rfl) hHeld ?hy10 ?rest10
      case hy10 => (intro w hSw; (try dsimp only at hSw); go_simp; (try with_reducible rfl))
      try simp only [Act.put, List.setIfInBounds_toArray, List.set_cons_zero, List.set_cons_succ]
      refine takeW (i := 10) (v := ?v11) rfl (by kernel_rfl) (by kernel_rfl) (by kernel_rfl) (fun _ _ _ h => h) (by kernel_rfl) hHeld ?hy11 ?rest11
      case hy11 => (intro w hSw; (try dsimp only at hSw); go_simp; (try with_reducible rfl))
      try simp only [Act.put, List.setIfInBounds_toArray, List.set_cons_zero, List.set_cons_succ]
      refine takeW (i := 11) (v := ?v12) rfl (by kernel_rfl) (by kernel_rfl) (by kernel_rfl) (fun _ _ _ h => h) (by kernel_rfl) hHeld ?hy12 ?rest12
      case hy12 => (intro w hSw; (try dsimp only at hSw); go_simp; (try with_reducible rfl))
      try simp only [Act.put, List.setIfInBounds_toArray, List.set_cons_zero, List.set_cons_succ]
      refine takeW (i := 12) (v := ?v13) rfl (by kernel_rfl) (by kernel_rfl) (by kernel_rfl) (fun _ _ _ h => h) (by kernel_rfl) hHeld ?hy13 ?rest13
      case hy13 => (intro w hSw; (try dsimp only at hSw); go_simp; (try with_reducible rfl))
      try simp only [Act.put, List.setIfInBounds_toArray, List.set_cons_zero, List.set_cons_succ]
      refine takeW (i := 13) (v := ?v14) rfl (by kernel_rfl) (by kernel_rfl) (by kernel_rfl) (fun _ _ _ h => h) (by kernel_rfl) hHeld ?hy14 ?rest14
      case hy14 => (intro w hSw; (try dsimp only at hSw); go_simp; (try with_reducible rfl))
      try simp only [Act.put, List.setIfInBounds_toArray, List.set_cons_zero, List.set_cons_succ]
      refine takeW (i := 14) (v := ?v15) rfl (by kernel_rfl) (by kernel_rfl) (by kernel_rfl) (fun _ _ _ h => h) (by kernel_rfl) hHeld ?hy15 ?rest15
      case hy15 => (intro w hSw; (try dsimp only at hSw); go_simp; (try with_reducible rfl))
      try simp only [Act.put, List.setIfInBounds_toArray, List.set_cons_zero, List.set_cons_succ]
      refine takeW (i := 15) (v := ?v16) rfl (by kernel_rfl) (by kernel_rfl) (by kernel_rfl) (fun _ _ _ h => h) (by kernel_rfl) hHeld ?hy16 ?rest16
      case hy16 => (intro w hSw; (try dsimp only at hSw); go_simp; (try with_reducible rfl))
      try simp only [Act.put, List.setIfInBounds_toArray, List.set_cons_zero, List.set_cons_succ]
      refine takeW (i := 16) (v := ?v17) rfl (by kernel_rfl) (by kernel_rfl) (by kernel_rfl) (fun _ _ _ h => h) (by kernel_rfl) hHeld ?hy17 ?rest17
      case hy17 => (intro w hSw; (try dsimp only at hSw); go_simp; (try with_reducible rfl))
      try simp only [Act.put, List.setIfInBounds_toArray, List.set_cons_zero, List.set_cons_succ]
      refine takeW (i := 17) (v := ?v18) rfl (by kernel_rfl) (by kernel_rfl) (by kernel_rfl) (fun _ _ _ h => h) (by kernel_rfl) hHeld ?hy18 ?rest18
      case hy18 => (intro w hSw; (try dsimp only at hSw); go_simp; (try with_reducible rfl))
      try simp only [Act.put, List.setIfInBounds_toArray, List.set_cons_zero, List.set_cons_succ]
      refine wpAnyH_ready (rs := [18]) (by kernel_rfl) (by simp) ?_
      refine consL rfl (by kernel_rfl) (fun K hK => ?_) AllReadyH.nil
      go_simp
      have HI5 := Lib.hid (HI.out.drew.later ((Below.refl wr.drew.heap.size wr.drew).alloc (Nat.le_refl _) (.cells #[.string (nmA x), .int .i64 x.parts] 76)))
      have hrow := HI5.out.out
      have hnw := news_at (Box.new wr.drew 76 #[.string (nmA x), .int .i64 x.parts])
      have hsz5 := HI5.out.bel.size
      refine hK.out _ _ (HS.out _ HI5.out.bel) (fun hHeld => ?_)
      clear hK K
      try simp only [Act.put, List.setIfInBounds_toArray, List.set_cons_zero, List.set_cons_succ]
      refine wpAnyH_ready (rs := [19]) (by kernel_rfl) (by simp) ?_
      refine consL rfl (by kernel_rfl) (fun K hK => ?_) AllReadyH.nil
      (refine wp_append_lies (w := (wr.drew.alloc (.cells #[.string (nmA x), .int .i64 x.parts] 76))) (.tmp 14) (.tmp 32) 44 rfl W.heap.size 76 i0 (.agg #[.string ⟨#[]⟩, .int .i64 0]) 2 24 Try.underlying44 hi hz0 hz1 hz2 rfl (by decide) (.slice B k d) k (topC (F.take k)) (by simp [Act.eval]) hrow ⟨wr.drew.heap.size, 0, none⟩ 1 1 [.string (nmA x), .int .i64 x.parts] (by simp [Act.eval]) rfl hnw (by simp [Value.oneCell']) (by decide) (by unfold maxLen; omega) (by omega) hsz5 _ rfl ?_)
      intro g2 cap2 w6 hown6 hgrow6 _ _
      have HI6 := Lib.hid (HI5.out.more hx.out hown6 hgrow6)
      refine hK.out _ _ (HS.out _ HI6.out.bel) (fun hHeld => ?_)
      clear hK K
      try simp only [Act.put, List.setIfInBounds_toArray, List.set_cons_zero, List.set_cons_succ]
      refine takeW (i := 20) (v := ?v19) rfl (by kernel_rfl) (by kernel_rfl) (by kernel_rfl) (fun _ _ _ h => h) (by kernel_rfl) hHeld ?hy19 ?rest19
      case hy19 => (intro w hSw; (try dsimp only at hSw); go_simp; (try with_reducible rfl))
      try simp only [Act.put, List.setIfInBounds_toArray, List.set_cons_zero, List.set_cons_succ]
      refine wpAnyH_done (by kernel_rfl) ?_ _
      go_wp2_with fail
      go_roundw
      case rel => exact ⟨k + 1, _, _, rfl, by go_num, hkl, HI6.out⟩
      case measure => simp [intOf]; omega
    · have hke : k = F.length := by omega
      subst hke
      go_wp2_with fail
      go_ret
      refine ⟨B, d, rfl, ?_, HI.out.bel⟩
      have := HI.out.out
      rwa [List.take_length] at this
end Go.Proofs.Ytnpfakjgocnkbaa
