/- offsets: Apply, by a contract. No condition but that they are not too many. -/
import Derived.Test.YtlkhfgkgngcakaaOfCo
namespace Go.Proofs.Ytlkhfgkgngcakaa
open Go.RowKit Go.Maps Go.ChangeMaps Go.WideMaps
set_option linter.unusedVariables false
/-- Apply: the error; the entries behind it. -/
def apE (room : Int) (F : List KE) (r : Rec) : Int := if cmOk r = true then (if cmA r = -1 then 0 else coR room F (cmK r) (cmA r)) else 3
def apS (room : Int) (F : List KE) (r : Rec) : List KE := if cmOk r = true then (if cmA r = -1 then minK F (kyB (cmK r)) else coS room F (cmK r) (cmA r)) else F
theorem del_fun (g : Nat) (F : List KE) (k : KY) (hk : KyOk k) :
    ∃ U : World → World, (∀ (w : World) (ty : TypeId), w.ownsMap Try.prog 45 tokI g F.length (mapK F) → (Builtin.delete_ #[57, 45] ty #[.map (some g), kyV k]).run Try.prog w = .ok (.tuple #[]) (U w)) ∧
      ∀ w : World, w.ownsMap Try.prog 45 tokI g F.length (mapK F) → (U w).ownsMap Try.prog 45 tokI g (minK F (kyB k)).length (mapK (minK F (kyB k))) ∧ Off (fun i => i = g) w (U w) := by
  have key : ∀ w : World, w.ownsMap Try.prog 45 tokI g F.length (mapK F) → ∃ w' : World, (∀ ty, (Builtin.delete_ #[57, 45] ty #[.map (some g), kyV k]).run Try.prog w = .ok (.tuple #[]) w') ∧ w'.ownsMap Try.prog 45 tokI g (minK F (kyB k)).length (mapK (minK F (kyB k))) ∧ Off (fun i => i = g) w w' := by
    intro w h
    obtain ⟨w', h1, h2, h3⟩ := h.drop kyKeyed Try.underlying57 (kyKey k hk) 0
    rw [mapK_del] at h2
    refine ⟨w', fun ty => h1, map_tight h2, ?_⟩
    obtain ⟨es, clock, es', clock', hb, rfl⟩ := h3
    exact ⟨rfl, rfl, rfl, by simp [setBlock], fun i _ hi => heap_setBlock_other hb _ (fun e => hi e)⟩
  classical
  refine ⟨fun w => if h : w.ownsMap Try.prog 45 tokI g F.length (mapK F) then Classical.choose (key w h) else w, fun w ty h => ?_, fun w h => ?_⟩
  · simp only [dif_pos h]
    exact (Classical.choose_spec (key w h)).1 ty
  · simp only [dif_pos h]
    exact (Classical.choose_spec (key w h)).2
theorem CmI.del {W w w' : World} {p g o : Nat} {room : Int} {F : List KE} {k : KY} {n : List UInt8} (h : CmI W p g room F o k w) (hm : w'.ownsMap Try.prog 45 tokI g (minK F n).length (mapK (minK F n))) (hg : Off (fun i => i = g) w w') : CmI W p g room (minK F n) o k w' := by
  have n1 := box_ne_map h.is.box h.is.map
  have n2 := box_ne_map h.box h.is.map
  exact ⟨⟨h.is.box.off hg n1, hm, minK_rise h.is.rise⟩, h.box.off hg n2, h.off.trans hg (fun _ _ e => e)⟩
theorem apply_nil (r : Rec) (A : Option Addr) (c : Nat) (W : World) : Calls Try.prog 17 #[.pointer none, .agg #[.int .i64 r.place, .int .i64 r.time, .bool r.bare, .string r.key, .bool r.gone, .string r.value, .slice A r.heads.length c]] W (fun e w' => e = .returned (.int .i64 1) ∧ Below W.heap.size W w') := by
  go_enter Try.func17, Try.ntmps17
  go_wp2_with fail
  go_ret
  exact ⟨rfl, (Below.refl _ _).alloc (Nat.le_refl _) _⟩
set_option maxHeartbeats 8000000 in
set_option maxRecDepth 100000 in
theorem apply_c (p g : Nat) (room : Int) (F : List KE) (r : Rec) (A : Option Addr) (c : Nat) (W : World) (h : OfIs W p g room F) (hl : F.length ≤ 1000000) (hR : RIn W r A c) :
    Calls Try.prog 17 #[.pointer (some ⟨p, 0, none⟩), .agg #[.int .i64 r.place, .int .i64 r.time, .bool r.bare, .string r.key, .bool r.gone, .string r.value, .slice A r.heads.length c]] W (GotCm W p g room (apS room F r) (apE room F r)) := by
  have hB := (Below.refl W.heap.size W).alloc (Nat.le_refl _) (.cells #[.int .i64 r.place, .int .i64 r.time, .bool r.bare, .string r.key, .bool r.gone, .string r.value, .slice A r.heads.length c] 34)
  have H1 := Lib.hid (h.later hB)
  have cc := commitOf_c r A c _ (hR.below hB)
  have HO := Lib.hid (Off.of_below (fun i => i = g) hB)
  obtain ⟨⟨r0, r1, r2, r3, r4, r5, r6⟩, _, rl⟩ := box7 (Box.new W 34 #[.int .i64 r.place, .int .i64 r.time, .bool r.bare, .string r.key, .bool r.gone, .string r.value, .slice A r.heads.length c])
  unfold cmV at cc
  cases hok : cmOk r with
  | false =>
    rw [hok] at cc
    simp only [Bool.false_eq_true, if_false] at cc
    have HV : Hid (apE room F r = 3 ∧ apS room F r = F) := Lib.hid (by unfold apE apS; rw [hok]; exact ⟨rfl, rfl⟩)
    clear hok hR hB h
    go_enter Try.func17, Try.ntmps17
    go_wp2_with fail
    with_reducible refine cc.mono ?_
    rintro en w1 ⟨rfl, hb⟩
    have HB := Lib.hid hb
    clear hb cc
    go_wp2_with fail
    go_ret
    have hba := HB.out.trans (((Below.refl w1.heap.size w1).alloc (Nat.le_refl _) (.cells #[.string ⟨#[]⟩, .string ⟨#[]⟩, .int .i64 0] 45)).mono HB.out.size)
    refine ⟨by rw [HV.out.1]; rfl, ?_, HO.out.trans (Off.of_below (fun _ => False) hba) (fun _ _ x => x.elim)⟩
    rw [HV.out.2]
    exact H1.out.later hba
  | true =>
    rw [hok] at cc
    simp only [if_true] at cc
    have hE : enOk (cmK r) (cmA r) r.time = true := by unfold cmOk at hok; simp only [Bool.and_eq_true] at hok; exact hok.1
    have hky := mayK_ok (enOk_parts hE).1
    have HV : Hid (apE room F r = (if cmA r = -1 then 0 else coR room F (cmK r) (cmA r)) ∧ apS room F r = (if cmA r = -1 then minK F (kyB (cmK r)) else coS room F (cmK r) (cmA r))) := Lib.hid (by unfold apE apS; rw [hok]; exact ⟨rfl, rfl⟩)
    clear hok hR hB h hE
    generalize (cmK r) = K at *
    generalize (cmA r) = AT at *
    have hQ0 : ∀ w1, Below (W.alloc (.cells #[.int .i64 r.place, .int .i64 r.time, .bool r.bare, .string r.key, .bool r.gone, .string r.value, .slice A r.heads.length c] 34)).heap.size (W.alloc (.cells #[.int .i64 r.place, .int .i64 r.time, .bool r.bare, .string r.key, .bool r.gone, .string r.value, .slice A r.heads.length c] 34)) w1 → CmI W p g room F w1.heap.size K (w1.alloc (.cells #[.string K.g, .string K.t, .int .i64 K.i] 45)) := fun w1 hb =>
      ⟨(H1.out.later hb).later ((Below.refl _ _).alloc (Nat.le_refl _) _), Box.new _ _ _, (HO.out.trans (Off.of_below (fun _ => False) hb) (fun _ _ x => x.elim)).alloc _⟩
    have HQ0 := Lib.hid hQ0
    clear hQ0
    by_cases hn : AT = -1
    · subst hn
      have HV2 : Hid (apE room F r = 0 ∧ apS room F r = minK F (kyB K)) := Lib.hid ⟨HV.out.1.trans (if_pos rfl), HV.out.2.trans (if_pos rfl)⟩
      clear HV
      obtain ⟨U, hU, hV⟩ := del_fun g F K hky
      go_enter Try.func17, Try.ntmps17
      go_wp2_with fail
      with_reducible refine cc.mono ?_
      rintro en w1 ⟨rfl, hb⟩
      have HQ := Lib.hid (HQ0.out w1 hb)
      clear hb cc HQ0 r0 r1 r2 r3 r4 r5 r6 rl H1 HO
      go_wp2_with fail
      generalize (w1.alloc (.cells #[.string K.g, .string K.t, .int .i64 K.i] 45)) = w3 at *
      generalize w1.heap.size = q at *
      have hS0 := HQ.out.drew.facts
      refine wp_region_held_drew (S := (fun w => w.cell? ⟨p, 1, none⟩ = some (.map (some g)) ∧ w.cell? ⟨q, 0, none⟩ = some (.string K.g) ∧ w.cell? ⟨q, 1, none⟩ = some (.string K.t) ∧ w.cell? ⟨q, 2, none⟩ = some (.int .i64 K.i))) (by kernel_rfl) hS0 (fun hHeld => ?_)
      refine takeW (i := 0) (v := ?v1) rfl (by kernel_rfl) (by kernel_rfl) (by kernel_rfl) (fun _ _ _ h => h) (by kernel_rfl) hHeld ?hy1 ?rest1
      case hy1 => (intro w hSw; (try dsimp only at hSw); go_simp; (try with_reducible rfl))
      try simp only [Act.put, List.setIfInBounds_toArray, List.set_cons_zero, List.set_cons_succ]
      refine takeW (i := 1) (v := ?v2) rfl (by kernel_rfl) (by kernel_rfl) (by kernel_rfl) (fun _ _ _ h => h) (by kernel_rfl) hHeld ?hy2 ?rest2
      case hy2 => (intro w hSw; (try dsimp only at hSw); go_simp; (try with_reducible rfl))
      try simp only [Act.put, List.setIfInBounds_toArray, List.set_cons_zero, List.set_cons_succ]
      refine takeW (i := 2) (v := ?v3) rfl (by kernel_rfl) (by kernel_rfl) (by kernel_rfl) (fun _ _ _ h => h) (by kernel_rfl) hHeld ?hy3 ?rest3
      case hy3 => (intro w hSw; (try dsimp only at hSw); go_simp; (try with_reducible rfl))
      try simp only [Act.put, List.setIfInBounds_toArray, List.set_cons_zero, List.set_cons_succ]
      refine takeW (i := 3) (v := ?v4) rfl (by kernel_rfl) (by kernel_rfl) (by kernel_rfl) (fun _ _ _ h => h) (by kernel_rfl) hHeld ?hy4 ?rest4
      case hy4 => (intro w hSw; (try dsimp only at hSw); go_simp; (try with_reducible rfl))
      try simp only [Act.put, List.setIfInBounds_toArray, List.set_cons_zero, List.set_cons_succ]
      refine takeW (i := 4) (v := ?v5) rfl (by kernel_rfl) (by kernel_rfl) (by kernel_rfl) (fun _ _ _ h => h) (by kernel_rfl) hHeld ?hy5 ?rest5
      case hy5 => (intro w hSw; (try dsimp only at hSw); go_simp; (try with_reducible rfl))
      try simp only [Act.put, List.setIfInBounds_toArray, List.set_cons_zero, List.set_cons_succ]
      refine wpAnyH_ready (rs := [5]) (by kernel_rfl) (by simp) ?_
      refine consL rfl (by kernel_rfl) (fun K hK => ?_) AllReadyH.nil
      have hU1 := fun ty => hU _ ty HQ.out.drew.is.map
      unfold kyV at hU1
      go_simp
      have HQ5 := Lib.hid (HQ.out.drew.del (hV _ HQ.out.drew.is.map).1 (hV _ HQ.out.drew.is.map).2)
      refine hK.out _ _ (HQ5.out.facts) (fun hHeld => ?_)
      clear hK K
      try simp only [Act.put, List.setIfInBounds_toArray, List.set_cons_zero, List.set_cons_succ]
      refine wpAnyH_done (by kernel_rfl) ?_ _
      go_wp2_with fail
      go_ret
      refine ⟨by rw [HV2.out.1]; rfl, ?_, HQ5.out.off⟩
      rw [HV2.out.2]
      exact HQ5.out.is
    · have HV2 : Hid (apE room F r = coR room F K AT ∧ apS room F r = coS room F K AT) := Lib.hid ⟨HV.out.1.trans (if_neg hn), HV.out.2.trans (if_neg hn)⟩
      have ck := fun w (hx : OfIs w p g room F) => commit_c p g room F K AT w hx hl
      clear HV
      go_enter Try.func17, Try.ntmps17
      go_wp2_with fail
      with_reducible refine cc.mono ?_
      rintro en w1 ⟨rfl, hb⟩
      have HQ := Lib.hid (HQ0.out w1 hb)
      clear hb cc HQ0 r0 r1 r2 r3 r4 r5 r6 rl H1 HO
      have hq := HQ.out
      obtain ⟨y0, y1, y2, yl, _, _, _⟩ := ky3 hq.box
      have ck1 := ck _ hq.is
      clear ck hq
      go_wp2_with fail
      with_reducible refine ck1.mono ?_
      rintro en w2 ⟨rfl, h2, ho⟩
      have HR := Lib.hid h2
      have HO2 := Lib.hid (HQ.out.off.trans ho (fun _ _ e => e))
      clear ck1 h2 ho
      go_wp2_with fail
      go_ret
      refine ⟨by rw [HV2.out.1]; rfl, ?_, HO2.out⟩
      rw [HV2.out.2]
      exact HR.out
end Go.Proofs.Ytlkhfgkgngcakaa
