/- offsets: the law OffsetsLast walks to true. No condition. -/
import Derived.Test.YtlkhfgkgngcakaaOfEq
namespace Go.Proofs.Ytlkhfgkgngcakaa
open Go.RowKit Go.Maps Go.ChangeMaps Go.WideMaps Go.WideShapes Go.WideAt
set_option linter.unusedVariables false
/-- Two tables, and a key's box, while commits go on. -/
structure LaI (W : World) (p g q h : Nat) (Fa Fb : List KE) (o1 : Nat) (k1 : KY) (w : World) : Prop where
  ota : OT W p g 100 Fa w
  otb : OT W q h 100 Fb w
  gh : g ≠ h
  kb : Box w o1 45 #[.string k1.g, .string k1.t, .int .i64 k1.i]
  below : Below W.heap.size W w
theorem LaI.later {W w w' : World} {p g q h o1 : Nat} {Fa Fb : List KE} {k1 : KY} (i : LaI W p g q h Fa Fb o1 k1 w) (hb : Below w.heap.size w w') : LaI W p g q h Fa Fb o1 k1 w' := ⟨i.ota.later hb, i.otb.later hb, i.gh, i.kb.later hb, i.below.trans (hb.mono i.below.size)⟩
theorem LaI.wra {W w w' : World} {p g q h o1 : Nat} {Fa Fb G : List KE} {k1 : KY} (i : LaI W p g q h Fa Fb o1 k1 w) (hw : Wr W p g 100 G w w') : LaI W p g q h G Fb o1 k1 w' :=
  ⟨hw.ot, i.otb.off hw.off (fun e => box_ne_map i.otb.is.box i.ota.is.map e) (fun e => i.gh e.symm), i.gh, i.kb.off hw.off (box_ne_map i.kb i.ota.is.map), i.ota.below hw i.below⟩
theorem LaI.wrb {W w w' : World} {p g q h o1 : Nat} {Fa Fb G : List KE} {k1 : KY} (i : LaI W p g q h Fa Fb o1 k1 w) (hw : Wr W q h 100 G w w') : LaI W p g q h Fa G o1 k1 w' :=
  ⟨i.ota.off hw.off (fun e => box_ne_map i.ota.is.box i.otb.is.map e) (fun e => i.gh e), hw.ot, i.gh, i.kb.off hw.off (box_ne_map i.kb i.otb.is.map), i.otb.below hw i.below⟩
/-- Two tables with the same entries. -/
structure LbI (W : World) (p g q h : Nat) (F : List KE) (w : World) : Prop where
  ota : OT W p g 100 F w
  otb : OT W q h 100 F w
  gh : g ≠ h
  below : Below W.heap.size W w
/-- Two tables, and two rows of keys. -/
structure LcI (W : World) (p g q h : Nat) (F : List KE) (B1 : Nat) (A1 : Option Addr) (c1 : Nat) (B2 : Nat) (A2 : Option Addr) (c2 : Nat) (w : World) : Prop where
  ota : OT W p g 100 F w
  otb : OT W q h 100 F w
  r1 : w.ownsRow B1 45 3 (.slice A1 F.length c1) F.length (rowKy (keysOf F))
  r2 : w.ownsRow B2 45 3 (.slice A2 F.length c2) F.length (rowKy (keysOf F))
  below : Below W.heap.size W w
theorem LcI.later {W w w' : World} {p g q h B1 c1 B2 c2 : Nat} {F : List KE} {A1 A2 : Option Addr} (i : LcI W p g q h F B1 A1 c1 B2 A2 c2 w) (hb : Below w.heap.size w w') : LcI W p g q h F B1 A1 c1 B2 A2 c2 w' := ⟨i.ota.later hb, i.otb.later hb, own_below i.r1 hb, own_below i.r2 hb, i.below.trans (hb.mono i.below.size)⟩
theorem coS_len {room : Int} {F : List KE} {k : KY} {a : Int} : (coS room F k a).length ≤ F.length + 1 := by
  unfold coS
  split
  · exact putK_len _ _
  · omega
theorem entry_yes {k : KY} {a tm : Int} (h : enOk k a tm = true) (w : World) : Calls Try.prog 18 #[.agg #[.string k.g, .string k.t, .int .i64 k.i], .int .i64 a, .int .i64 tm] w (Good w (.tuple #[.agg (recC (enRec k a tm) none 0), .int .i64 0])) := by
  have h1 := entry_c k a tm w
  unfold enR enE at h1
  rw [if_pos h, if_pos h] at h1
  exact h1
theorem entry_not {k : KY} {a tm : Int} (h : enOk k a tm = false) (w : World) : Calls Try.prog 18 #[.agg #[.string k.g, .string k.t, .int .i64 k.i], .int .i64 a, .int .i64 tm] w (Good w (.tuple #[.agg #[.int .i64 0, .int .i64 0, .bool false, .string ⟨#[]⟩, .bool false, .string ⟨#[]⟩, .slice none 0 0], .int .i64 1])) := by
  have h1 := entry_c k a tm w
  unfold enR enE at h1
  rw [if_neg (by rw [h]; decide), if_neg (by rw [h]; decide)] at h1
  exact h1
theorem commit_yes {F : List KE} {k : KY} {a tm : Int} (h : enOk k a tm = true) (hn : ¬ a = -1) (hl : F.length < 100) : coR 100 F k a = 0 ∧ geR (coS 100 F k a) k = (a, true) := by
  obtain ⟨hm, _, ha⟩ := enOk_parts h
  have hw : witB a 0 1099511627776 = true := by unfold witB; rw [decide_eq_true (show 0 ≤ a by omega), decide_eq_true ha.2]; rfl
  have hc : coR 100 F k a = 0 := by
    unfold coR
    rw [hm, hw, if_pos (show (true && true) = true from rfl), if_pos (by rw [decide_eq_true (show (F.length : Int) < 100 by omega), Bool.or_true])]
  refine ⟨hc, ?_⟩
  unfold coS
  rw [if_pos hc]
  unfold geR
  have : ofK (putK (k, a) F) (kyB k) = some (k, a) := of_put_same (x := (k, a))
  rw [this]
theorem commit_not {F : List KE} {k : KY} {a tm : Int} (h : enOk k a tm = false) (h0 : 0 ≤ tm) (h1 : tm ≤ 1099511627776) : coR 100 F k a = 1 ∧ coS 100 F k a = F := by
  have ht : witB tm 0 1099511627776 = true := by unfold witB; rw [decide_eq_true h0, decide_eq_true h1]; rfl
  unfold enOk at h
  rw [ht, Bool.true_and] at h
  have hc : coR 100 F k a = 1 := by
    unfold coR
    rw [if_neg]
    intro e
    simp only [Bool.and_eq_true] at e
    rw [e.1, e.2] at h
    simp at h
  refine ⟨hc, ?_⟩
  unfold coS
  rw [hc]
  rfl
theorem commit_gone {F : List KE} {k : KY} : coR 100 F k (-1) = 1 ∧ coS 100 F k (-1) = F := by
  have hc : coR 100 F k (-1) = 1 := by
    unfold coR
    rw [if_neg]
    intro e
    simp only [Bool.and_eq_true] at e
    exact absurd e.2 (by decide)
  refine ⟨hc, ?_⟩
  unfold coS
  rw [hc]
  rfl
theorem apply_yes {F : List KE} {k : KY} {a tm : Int} (h : enOk k a tm = true) (hn : ¬ a = -1) : apE 100 F (enRec k a tm) = coR 100 F k a ∧ apS 100 F (enRec k a tm) = coS 100 F k a := by
  obtain ⟨h1, h2, h3⟩ := cm_of h
  unfold apE apS
  rw [h3, h1, h2, if_pos rfl, if_pos rfl, if_neg hn, if_neg hn]
  exact ⟨rfl, rfl⟩
set_option maxHeartbeats 16000000 in
set_option maxRecDepth 100000 in
theorem offsetsLast_walk (A0 : Option Addr) (c0 : Nat) (L : List OO) (W : World) (hL : OosIn W A0 L) : Calls Try.prog 5 #[.slice A0 L.length c0] W (Yes W) := by
  have cl := fun w => live_c w
  unfold Yes at cl
  by_cases hn : (60 : Int) < (L.length : Int)
  · go_enter Try.func5, Try.ntmps5
    go_wp2_with fail
    with_reducible refine (cl _).mono ?_
    rintro en w1 ⟨rfl, hb⟩
    go_wp2_with fail
    go_ret
    exact ⟨rfl, hb⟩
  · have nw := new_v W W 100 (by omega) (by omega) (Nat.le_refl _)
    have nw2 := fun w (hz : W.heap.size ≤ w.heap.size) => new_v W w 100 (by omega) (by omega) hz
    obtain ⟨n, hnl⟩ : ∃ n, L.length = n := ⟨_, rfl⟩
    have HN := Lib.hid hnl
    have HL := Lib.hid hL
    rw [hnl] at hn ⊢
    have hn60 : n ≤ 60 := by omega
    clear hnl hL
    go_enter Try.func5, Try.ntmps5
    go_wp2_with fail
    with_reducible refine nw.mono ?_
    rintro en w1 ⟨p, g, rfl, hot, _, _, _, hgl, hb⟩
    have HS := Lib.hid hot
    have HB := Lib.hid hb
    have HGL := Lib.hid hgl
    have nw3 := nw2 w1 hb.size
    clear hot hb nw nw2 hgl
    go_wp2_with fail
    with_reducible refine nw3.mono ?_
    rintro en w2 ⟨q, h, rfl, hot, hh, _, _, _, hb⟩
    have HLB := Lib.hid (show LbI W p g q h [] w2 from ⟨HS.out.later hb, hot, by have := HGL.out; omega, HB.out.trans (hb.mono HB.out.size)⟩)
    clear hot hb nw3 hh HS HB HGL
    go_wp2_with fail
    go_loopw [7] (fun i wr => ∃ k : Nat, i = .int .i64 k ∧ k ≤ n ∧ ∃ F : List KE, F.length ≤ k ∧ LbI W p g q h F wr) (fun i _ => n - (intOf i).toNat)
    case atStart => exact ⟨0, rfl, Nat.zero_le _, [], Nat.le_refl _, HLB.out⟩
    case round =>
      obtain ⟨k, rfl, hk, F, hFk, hI⟩ := hrel
      have HO := Lib.hid hI
      clear hI HLB
      by_cases hkn : k < n
      · have hkl : k < L.length := by rw [HN.out]; exact hkn
        obtain ⟨x, hx⟩ : ∃ x, L[k]? = some x := ⟨_, List.getElem?_eq_getElem hkl⟩
        obtain ⟨b, off, rfl, hbl, hok, z1, z2, z3, z4⟩ := oo_cells HL.out HO.out.below hx
        have hK0 : (0 : Int) ≤ (k : Int) := by omega
        have hK1 : (k : Int) < (n : Int) := by omega
        have HX := Lib.hid hx
        have HKY := Lib.hid hok.ky
        have HF := Lib.hid hFk
        clear hx hkl hok hFk
        by_cases hat : x.at_ = -1
        · cases hE : enOk x.k x.at_ k with
          | true =>
            have hCO : coR 100 F x.k x.at_ = 1 := by rw [hat]; exact commit_gone.1
            have HCS : Hid (coS 100 F x.k x.at_ = F) := Lib.hid (by rw [hat]; exact commit_gone.2)
            have hsz := (okRec_parts (enRec_ok hE)).2.1
            have hrec : recC (enRec x.k x.at_ k) none 0 = #[.int .i64 0, .int .i64 k, .bool false, .string ⟨(enKey x.k).toArray⟩, .bool (decide (x.at_ = -1)), .string (if x.at_ = -1 then ⟨#[]⟩ else ⟨(putL x.at_).toArray⟩), .slice none 0 0] := rfl
            have cE := fun w => entry_yes hE w
            have cE : ∀ w, Calls Try.prog 18 #[.agg #[.string x.k.g, .string x.k.t, .int .i64 x.k.i], .int .i64 x.at_, .int .i64 k] w (Good w (.tuple #[.agg #[.int .i64 0, .int .i64 k, .bool false, .string ⟨(enKey x.k).toArray⟩, .bool (decide (x.at_ = -1)), .string (if x.at_ = -1 then ⟨#[]⟩ else ⟨(putL x.at_).toArray⟩), .slice none 0 0], .int .i64 0])) := cE
            generalize (⟨(enKey x.k).toArray⟩ : ByteArray) = KT at *
            generalize decide (x.at_ = -1) = GB at *
            generalize (if x.at_ = -1 then (⟨#[]⟩ : ByteArray) else ⟨(putL x.at_).toArray⟩) = VT at *
            clear hrec hsz
            have HAT := Lib.hid hat
            clear hat hE
            go_wp2_with fail
            have hS0 : wr.drew.cell? ⟨b, off + k * 12 + 1, none⟩ = some (.string x.k.g) ∧ wr.drew.cell? ⟨b, off + k * 12 + 2, none⟩ = some (.string x.k.t) ∧ wr.drew.cell? ⟨b, off + k * 12 + 3, none⟩ = some (.int .i64 x.k.i) ∧ wr.drew.cell? ⟨b, off + k * 12 + 4, none⟩ = some (.int .i64 x.at_) := ⟨z1, z2, z3, z4⟩
            have hD := (Below.refl wr.heap.size wr).drew
            refine wp_region_held_drew (S := (fun w => w.cell? ⟨b, off + k * 12 + 1, none⟩ = some (.string x.k.g) ∧ w.cell? ⟨b, off + k * 12 + 2, none⟩ = some (.string x.k.t) ∧ w.cell? ⟨b, off + k * 12 + 3, none⟩ = some (.int .i64 x.k.i) ∧ w.cell? ⟨b, off + k * 12 + 4, none⟩ = some (.int .i64 x.at_))) (by kernel_rfl) hS0 (fun hHeld => ?_)
            refine takeW (i := 0) (v := ?v1) rfl (by kernel_rfl) (by kernel_rfl) (by kernel_rfl) (fun _ _ _ h => h) (by kernel_rfl) hHeld ?hy1 ?rest1
            case hy1 => (intro w hSw; (try dsimp only at hSw); go_simp; (try with_reducible rfl))
            try simp only [Act.put, List.setIfInBounds_toArray, List.set_cons_zero, List.set_cons_succ]
            refine takeW (i := 1) (v := ?v2) rfl (by kernel_rfl) (by kernel_rfl) (by kernel_rfl) (fun _ _ _ h => h) (by kernel_rfl) hHeld ?hy2 ?rest2
            case hy2 => (intro w hSw; (try dsimp only at hSw); go_simp; (try with_reducible rfl))
            try simp only [Act.put, List.setIfInBounds_toArray, List.set_cons_zero, List.set_cons_succ]
            refine takeW (i := 2) (v := ?v3) rfl (by kernel_rfl) (by kernel_rfl) (by kernel_rfl) (fun _ _ _ h => h) (by kernel_rfl) hHeld ?hy3 ?rest3
            case hy3 => (intro w hSw; (try dsimp only at hSw); go_simp; (try with_reducible rfl))
            try simp only [Act.put, List.setIfInBounds_toArray, List.set_cons_zero, List.set_cons_succ]
            refine takeW (i := 3) (v := ?v4) rfl (by kernel_rfl) (by kernel_rfl) (by kernel_rfl) (fun _ _ _ h => h) (by kernel_rfl) hHeld ?hy4 ?rest4
            case hy4 => (intro w hSw; (try dsimp only at hSw); go_simp; (try with_reducible rfl))
            try simp only [Act.put, List.setIfInBounds_toArray, List.set_cons_zero, List.set_cons_succ]
            refine takeW (i := 4) (v := ?v5) rfl (by kernel_rfl) (by kernel_rfl) (by kernel_rfl) (fun _ _ _ h => h) (by kernel_rfl) hHeld ?hy5 ?rest5
            case hy5 => (intro w hSw; (try dsimp only at hSw); go_simp; (try with_reducible rfl))
            try simp only [Act.put, List.setIfInBounds_toArray, List.set_cons_zero, List.set_cons_succ]
            refine takeW (i := 5) (v := ?v6) rfl (by kernel_rfl) (by kernel_rfl) (by kernel_rfl) (fun _ _ _ h => h) (by kernel_rfl) hHeld ?hy6 ?rest6
            case hy6 => (intro w hSw; (try dsimp only at hSw); go_simp; (try with_reducible rfl))
            try simp only [Act.put, List.setIfInBounds_toArray, List.set_cons_zero, List.set_cons_succ]
            refine takeW (i := 6) (v := ?v7) rfl (by kernel_rfl) (by kernel_rfl) (by kernel_rfl) (fun _ _ _ h => h) (by kernel_rfl) hHeld ?hy7 ?rest7
            case hy7 => (intro w hSw; (try dsimp only at hSw); go_simp; (try with_reducible rfl))
            try simp only [Act.put, List.setIfInBounds_toArray, List.set_cons_zero, List.set_cons_succ]
            refine takeW (i := 7) (v := ?v8) rfl (by kernel_rfl) (by kernel_rfl) (by kernel_rfl) (fun _ _ _ h => h) (by kernel_rfl) hHeld ?hy8 ?rest8
            case hy8 => (intro w hSw; (try dsimp only at hSw); go_simp; (try with_reducible rfl))
            try simp only [Act.put, List.setIfInBounds_toArray, List.set_cons_zero, List.set_cons_succ]
            refine takeW (i := 8) (v := ?v9) rfl (by kernel_rfl) (by kernel_rfl) (by kernel_rfl) (fun _ _ _ h => h) (by kernel_rfl) hHeld ?hy9 ?rest9
            case hy9 => (intro w hSw; (try dsimp only at hSw); go_simp; (try with_reducible rfl))
            try simp only [Act.put, List.setIfInBounds_toArray, List.set_cons_zero, List.set_cons_succ]
            refine takeW (i := 9) (v := ?v10) rfl (by kernel_rfl) (by kernel_rfl) (by kernel_rfl) (fun _ _ _ h => h) (by kernel_rfl) hHeld ?hy10 ?rest10
            case hy10 => (intro w hSw; (try dsimp only at hSw); go_simp; (try with_reducible rfl))
            try simp only [Act.put, List.setIfInBounds_toArray, List.set_cons_zero, List.set_cons_succ]
            refine takeW (i := 10) (v := ?v11) rfl (by kernel_rfl) (by kernel_rfl) (by kernel_rfl) (fun _ _ _ h => h) (by kernel_rfl) hHeld ?hy11 ?rest11
            case hy11 => (intro w hSw; (try dsimp only at hSw); go_simp; (try with_reducible rfl))
            try simp only [Act.put, List.setIfInBounds_toArray, List.set_cons_zero, List.set_cons_succ]
            refine wpAnyH_ready (rs := [11]) (by kernel_rfl) (by simp) ?_
            refine consL rfl (by kernel_rfl) (fun K hK => ?_) AllReadyH.nil
            go_simp
            have hBA := hD.trans ((Below.refl wr.heap.size wr.drew).alloc (Nat.le_refl _) (.cells #[.string ⟨#[]⟩, .string ⟨#[]⟩, .int .i64 0] 45))
            have hbx : Box (wr.alloc (.cells #[.string ⟨#[]⟩, .string ⟨#[]⟩, .int .i64 0] 45)).drew wr.heap.size 45 #[.string ⟨#[]⟩, .string ⟨#[]⟩, .int .i64 0] := Box.new wr _ _
            have hS1 : (wr.alloc (.cells #[.string ⟨#[]⟩, .string ⟨#[]⟩, .int .i64 0] 45)).drew.cell? ⟨b, off + k * 12 + 1, none⟩ = some (.string x.k.g) ∧ (wr.alloc (.cells #[.string ⟨#[]⟩, .string ⟨#[]⟩, .int .i64 0] 45)).drew.cell? ⟨b, off + k * 12 + 2, none⟩ = some (.string x.k.t) ∧ (wr.alloc (.cells #[.string ⟨#[]⟩, .string ⟨#[]⟩, .int .i64 0] 45)).drew.cell? ⟨b, off + k * 12 + 3, none⟩ = some (.int .i64 x.k.i) ∧ (wr.alloc (.cells #[.string ⟨#[]⟩, .string ⟨#[]⟩, .int .i64 0] 45)).drew.cell? ⟨b, off + k * 12 + 4, none⟩ = some (.int .i64 x.at_) := ⟨(hBA.cell (p := ⟨b, off + k * 12 + 1, none⟩) hbl).trans z1, (hBA.cell (p := ⟨b, off + k * 12 + 2, none⟩) hbl).trans z2, (hBA.cell (p := ⟨b, off + k * 12 + 3, none⟩) hbl).trans z3, (hBA.cell (p := ⟨b, off + k * 12 + 4, none⟩) hbl).trans z4⟩
            refine hK.out _ _ (hS1) (fun hHeld => ?_)
            clear hK K
            try simp only [Act.put, List.setIfInBounds_toArray, List.set_cons_zero, List.set_cons_succ]
            refine wpAnyH_ready (rs := [12]) (by kernel_rfl) (by simp) ?_
            refine consL rfl (by kernel_rfl) (fun K hK => ?_) AllReadyH.nil
            go_simp
            have hBA := hD.trans ((Below.refl wr.heap.size wr.drew).alloc (Nat.le_refl _) (.cells #[.string x.k.g, .string x.k.t, .int .i64 x.k.i] 45))
            have hS2 : (wr.alloc (.cells #[.string x.k.g, .string x.k.t, .int .i64 x.k.i] 45)).drew.cell? ⟨b, off + k * 12 + 1, none⟩ = some (.string x.k.g) ∧ (wr.alloc (.cells #[.string x.k.g, .string x.k.t, .int .i64 x.k.i] 45)).drew.cell? ⟨b, off + k * 12 + 2, none⟩ = some (.string x.k.t) ∧ (wr.alloc (.cells #[.string x.k.g, .string x.k.t, .int .i64 x.k.i] 45)).drew.cell? ⟨b, off + k * 12 + 3, none⟩ = some (.int .i64 x.k.i) ∧ (wr.alloc (.cells #[.string x.k.g, .string x.k.t, .int .i64 x.k.i] 45)).drew.cell? ⟨b, off + k * 12 + 4, none⟩ = some (.int .i64 x.at_) := ⟨(hBA.cell (p := ⟨b, off + k * 12 + 1, none⟩) hbl).trans z1, (hBA.cell (p := ⟨b, off + k * 12 + 2, none⟩) hbl).trans z2, (hBA.cell (p := ⟨b, off + k * 12 + 3, none⟩) hbl).trans z3, (hBA.cell (p := ⟨b, off + k * 12 + 4, none⟩) hbl).trans z4⟩
            refine hK.out _ _ (hS2) (fun hHeld => ?_)
            clear hK K
            try simp only [Act.put, List.setIfInBounds_toArray, List.set_cons_zero, List.set_cons_succ]
            refine wpAnyH_done (by kernel_rfl) ?_ _
            have hX1 : Box (wr.alloc (.cells #[.string x.k.g, .string x.k.t, .int .i64 x.k.i] 45)).drew wr.heap.size 45 #[.string x.k.g, .string x.k.t, .int .i64 x.k.i] := Box.new wr _ _
            have hBK := hD.trans ((Below.refl wr.heap.size wr.drew).alloc (Nat.le_refl _) (.cells #[.string x.k.g, .string x.k.t, .int .i64 x.k.i] 45))
            have HI : Hid (LaI W p g q h F F wr.heap.size x.k (wr.alloc (.cells #[.string x.k.g, .string x.k.t, .int .i64 x.k.i] 45)).drew) := Lib.hid ⟨HO.out.ota.later hBK, HO.out.otb.later hBK, HO.out.gh, hX1, HO.out.below.trans (hBK.mono HO.out.below.size)⟩
            clear hBK hX1 hD z1 z2 z3 z4 hbl hS0 hS1 hS2 hbx hHeld HO
            generalize (wr.alloc (.cells #[.string x.k.g, .string x.k.t, .int .i64 x.k.i] 45)).drew = w4 at *
            generalize wr.heap.size = o1 at *
            obtain ⟨b', off', hA', hbl, _, z1, z2, z3, z4⟩ := oo_cells HL.out HI.out.below HX.out
            injection hA' with hA'
            injection hA' with e1 e2 _
            subst e1 e2
            obtain ⟨q0, q1, q2, ql, _, _, _⟩ := ky3 HI.out.kb
            go_wp2_with fail
            have hS0 : w4.drew.cell? ⟨o1, 0, none⟩ = some (.string x.k.g) ∧ w4.drew.cell? ⟨o1, 1, none⟩ = some (.string x.k.t) ∧ w4.drew.cell? ⟨o1, 2, none⟩ = some (.int .i64 x.k.i) ∧ w4.drew.cell? ⟨b, off + k * 12 + 4, none⟩ = some (.int .i64 x.at_) := ⟨q0, q1, q2, z4⟩
            have HID := Lib.hid (HI.out.later (Below.refl _ _).drew)
            have cm1 := commit_v HID.out.ota x.k x.at_
            rw [hCO] at cm1
            refine wp_region_held_drew (S := (fun w => w.cell? ⟨o1, 0, none⟩ = some (.string x.k.g) ∧ w.cell? ⟨o1, 1, none⟩ = some (.string x.k.t) ∧ w.cell? ⟨o1, 2, none⟩ = some (.int .i64 x.k.i) ∧ w.cell? ⟨b, off + k * 12 + 4, none⟩ = some (.int .i64 x.at_))) (by kernel_rfl) hS0 (fun hHeld => ?_)
            refine takeW (i := 0) (v := ?v12) rfl (by kernel_rfl) (by kernel_rfl) (by kernel_rfl) (fun _ _ _ h => h) (by kernel_rfl) hHeld ?hy12 ?rest12
            case hy12 => (intro w hSw; (try dsimp only at hSw); go_simp; (try with_reducible rfl))
            try simp only [Act.put, List.setIfInBounds_toArray, List.set_cons_zero, List.set_cons_succ]
            refine takeW (i := 1) (v := ?v13) rfl (by kernel_rfl) (by kernel_rfl) (by kernel_rfl) (fun _ _ _ h => h) (by kernel_rfl) hHeld ?hy13 ?rest13
            case hy13 => (intro w hSw; (try dsimp only at hSw); go_simp; (try with_reducible rfl))
            try simp only [Act.put, List.setIfInBounds_toArray, List.set_cons_zero, List.set_cons_succ]
            refine takeW (i := 2) (v := ?v14) rfl (by kernel_rfl) (by kernel_rfl) (by kernel_rfl) (fun _ _ _ h => h) (by kernel_rfl) hHeld ?hy14 ?rest14
            case hy14 => (intro w hSw; (try dsimp only at hSw); go_simp; (try with_reducible rfl))
            try simp only [Act.put, List.setIfInBounds_toArray, List.set_cons_zero, List.set_cons_succ]
            refine takeW (i := 3) (v := ?v15) rfl (by kernel_rfl) (by kernel_rfl) (by kernel_rfl) (fun _ _ _ h => h) (by kernel_rfl) hHeld ?hy15 ?rest15
            case hy15 => (intro w hSw; (try dsimp only at hSw); go_simp; (try with_reducible rfl))
            try simp only [Act.put, List.setIfInBounds_toArray, List.set_cons_zero, List.set_cons_succ]
            refine takeW (i := 4) (v := ?v16) rfl (by kernel_rfl) (by kernel_rfl) (by kernel_rfl) (fun _ _ _ h => h) (by kernel_rfl) hHeld ?hy16 ?rest16
            case hy16 => (intro w hSw; (try dsimp only at hSw); go_simp; (try with_reducible rfl))
            try simp only [Act.put, List.setIfInBounds_toArray, List.set_cons_zero, List.set_cons_succ]
            refine takeW (i := 5) (v := ?v17) rfl (by kernel_rfl) (by kernel_rfl) (by kernel_rfl) (fun _ _ _ h => h) (by kernel_rfl) hHeld ?hy17 ?rest17
            case hy17 => (intro w hSw; (try dsimp only at hSw); go_simp; (try with_reducible rfl))
            try simp only [Act.put, List.setIfInBounds_toArray, List.set_cons_zero, List.set_cons_succ]
            refine takeW (i := 6) (v := ?v18) rfl (by kernel_rfl) (by kernel_rfl) (by kernel_rfl) (fun _ _ _ h => h) (by kernel_rfl) hHeld ?hy18 ?rest18
            case hy18 => (intro w hSw; (try dsimp only at hSw); go_simp; (try with_reducible rfl))
            try simp only [Act.put, List.setIfInBounds_toArray, List.set_cons_zero, List.set_cons_succ]
            refine wpAnyH_ready (rs := [7]) (by kernel_rfl) (by simp) ?_
            refine consL rfl (by kernel_rfl) (fun K hK => ?_) AllReadyH.nil
            go_simp
            with_reducible refine cm1.mono ?_
            rintro en w5 ⟨rfl, hw⟩
            have HJ := Lib.hid (HID.out.wra hw)
            clear hw cm1 q0 q1 q2 ql z1 z2 z3 z4 hbl HI HID
            obtain ⟨b', off', hA', hbl, _, z1, z2, z3, z4⟩ := oo_cells HL.out HJ.out.below HX.out
            injection hA' with hA'
            injection hA' with e1 e2 _
            subst e1 e2
            obtain ⟨q0, q1, q2, ql, _, _, _⟩ := ky3 HJ.out.kb
            have hS3 := And.intro q0 (And.intro q1 (And.intro q2 z4))
            refine hK.out _ _ (hS3) (fun hHeld => ?_)
            clear hK K
            try simp only [Act.put, List.setIfInBounds_toArray, List.set_cons_zero, List.set_cons_succ]
            refine takeW (i := 8) (v := ?v19) rfl (by kernel_rfl) (by kernel_rfl) (by kernel_rfl) (fun _ _ _ h => h) (by kernel_rfl) hHeld ?hy19 ?rest19
            case hy19 => (intro w hSw; (try dsimp only at hSw); go_simp; (try with_reducible rfl))
            try simp only [Act.put, List.setIfInBounds_toArray, List.set_cons_zero, List.set_cons_succ]
            refine wpAnyH_done (by kernel_rfl) ?_ _
            clear hHeld hS0
            go_wp2_with fail
            have hS4 : w5.drew.cell? ⟨o1, 0, none⟩ = some (.string x.k.g) ∧ w5.drew.cell? ⟨o1, 1, none⟩ = some (.string x.k.t) ∧ w5.drew.cell? ⟨o1, 2, none⟩ = some (.int .i64 x.k.i) ∧ w5.drew.cell? ⟨b, off + k * 12 + 4, none⟩ = some (.int .i64 x.at_) := ⟨q0, q1, q2, z4⟩
            have HJD := Lib.hid (HJ.out.later (Below.refl _ _).drew)
            refine wp_region_held_drew (S := (fun w => w.cell? ⟨o1, 0, none⟩ = some (.string x.k.g) ∧ w.cell? ⟨o1, 1, none⟩ = some (.string x.k.t) ∧ w.cell? ⟨o1, 2, none⟩ = some (.int .i64 x.k.i) ∧ w.cell? ⟨b, off + k * 12 + 4, none⟩ = some (.int .i64 x.at_))) (by kernel_rfl) hS4 (fun hHeld => ?_)
            refine takeW (i := 0) (v := ?v5001) rfl (by kernel_rfl) (by kernel_rfl) (by kernel_rfl) (fun _ _ _ h => h) (by kernel_rfl) hHeld ?hy5001 ?rest5001
            case hy5001 => (intro w hSw; (try dsimp only at hSw); go_simp; (try with_reducible rfl))
            try simp only [Act.put, List.setIfInBounds_toArray, List.set_cons_zero, List.set_cons_succ]
            refine takeW (i := 1) (v := ?v5002) rfl (by kernel_rfl) (by kernel_rfl) (by kernel_rfl) (fun _ _ _ h => h) (by kernel_rfl) hHeld ?hy5002 ?rest5002
            case hy5002 => (intro w hSw; (try dsimp only at hSw); go_simp; (try with_reducible rfl))
            try simp only [Act.put, List.setIfInBounds_toArray, List.set_cons_zero, List.set_cons_succ]
            refine takeW (i := 2) (v := ?v5003) rfl (by kernel_rfl) (by kernel_rfl) (by kernel_rfl) (fun _ _ _ h => h) (by kernel_rfl) hHeld ?hy5003 ?rest5003
            case hy5003 => (intro w hSw; (try dsimp only at hSw); go_simp; (try with_reducible rfl))
            try simp only [Act.put, List.setIfInBounds_toArray, List.set_cons_zero, List.set_cons_succ]
            refine takeW (i := 3) (v := ?v5004) rfl (by kernel_rfl) (by kernel_rfl) (by kernel_rfl) (fun _ _ _ h => h) (by kernel_rfl) hHeld ?hy5004 ?rest5004
            case hy5004 => (intro w hSw; (try dsimp only at hSw); go_simp; (try with_reducible rfl))
            try simp only [Act.put, List.setIfInBounds_toArray, List.set_cons_zero, List.set_cons_succ]
            refine takeW (i := 4) (v := ?v5005) rfl (by kernel_rfl) (by kernel_rfl) (by kernel_rfl) (fun _ _ _ h => h) (by kernel_rfl) hHeld ?hy5005 ?rest5005
            case hy5005 => (intro w hSw; (try dsimp only at hSw); go_simp; (try with_reducible rfl))
            try simp only [Act.put, List.setIfInBounds_toArray, List.set_cons_zero, List.set_cons_succ]
            refine takeW (i := 5) (v := ?v5006) rfl (by kernel_rfl) (by kernel_rfl) (by kernel_rfl) (fun _ _ _ h => h) (by kernel_rfl) hHeld ?hy5006 ?rest5006
            case hy5006 => (intro w hSw; (try dsimp only at hSw); go_simp; (try with_reducible rfl))
            try simp only [Act.put, List.setIfInBounds_toArray, List.set_cons_zero, List.set_cons_succ]
            refine takeW (i := 6) (v := ?v5007) rfl (by kernel_rfl) (by kernel_rfl) (by kernel_rfl) (fun _ _ _ h => h) (by kernel_rfl) hHeld ?hy5007 ?rest5007
            case hy5007 => (intro w hSw; (try dsimp only at hSw); go_simp; (try with_reducible rfl))
            try simp only [Act.put, List.setIfInBounds_toArray, List.set_cons_zero, List.set_cons_succ]
            refine wpAnyH_ready (rs := [7, 11]) (by kernel_rfl) (by simp) ?_
            refine consL rfl (by kernel_rfl) (fun K hK => ?_) (consL rfl (by kernel_rfl) (fun K hK => ?_) AllReadyH.nil)
            · go_simp
              with_reducible refine (cE _).mono ?_
              rintro en w6 ⟨rfl, hb⟩
              have HK := Lib.hid (HJD.out.later hb)
              clear hb cE q0 q1 q2 ql z1 z2 z3 z4 hbl HJ HJD
              obtain ⟨b', off', hA', hbl, _, z1, z2, z3, z4⟩ := oo_cells HL.out HK.out.below HX.out
              injection hA' with hA'
              injection hA' with e1 e2 _
              subst e1 e2
              obtain ⟨q0, q1, q2, ql, _, _, _⟩ := ky3 HK.out.kb
              have hS5 := And.intro q0 (And.intro q1 (And.intro q2 z4))
              refine hK.out _ _ (hS5) (fun hHeld => ?_)
              clear hK K
              try simp only [Act.put, List.setIfInBounds_toArray, List.set_cons_zero, List.set_cons_succ]
              refine takeW (i := 8) (v := ?v5008) rfl (by kernel_rfl) (by kernel_rfl) (by kernel_rfl) (fun _ _ _ h => h) (by kernel_rfl) hHeld ?hy5008 ?rest5008
              case hy5008 => (intro w hSw; (try dsimp only at hSw); go_simp; (try with_reducible rfl))
              try simp only [Act.put, List.setIfInBounds_toArray, List.set_cons_zero, List.set_cons_succ]
              refine takeW (i := 9) (v := ?v5009) rfl (by kernel_rfl) (by kernel_rfl) (by kernel_rfl) (fun _ _ _ h => h) (by kernel_rfl) hHeld ?hy5009 ?rest5009
              case hy5009 => (intro w hSw; (try dsimp only at hSw); go_simp; (try with_reducible rfl))
              try simp only [Act.put, List.setIfInBounds_toArray, List.set_cons_zero, List.set_cons_succ]
              refine takeW (i := 10) (v := ?v5010) rfl (by kernel_rfl) (by kernel_rfl) (by kernel_rfl) (fun _ _ _ h => h) (by kernel_rfl) hHeld ?hy5010 ?rest5010
              case hy5010 => (intro w hSw; (try dsimp only at hSw); go_simp; (try with_reducible rfl))
              try simp only [Act.put, List.setIfInBounds_toArray, List.set_cons_zero, List.set_cons_succ]
              refine wpAnyH_ready (rs := [11]) (by kernel_rfl) (by simp) ?_
              refine consL rfl (by kernel_rfl) (fun K hK => ?_) AllReadyH.nil
              go_simp
              have hBA := (Below.refl w6.heap.size w6).alloc (Nat.le_refl _) (.cells #[.int .i64 0, .int .i64 0, .bool false, .string ⟨#[]⟩, .bool false, .string ⟨#[]⟩, .slice none 0 0] 34)
              obtain ⟨⟨r0, r1, r2, r3, r4, r5, r6⟩, ⟨f0, f1, f2, f3, f4, f5, f6⟩, rl⟩ := box7 (Box.new w6 34 #[.int .i64 0, .int .i64 0, .bool false, .string ⟨#[]⟩, .bool false, .string ⟨#[]⟩, .slice none 0 0])
              have hS6 : (w6.alloc (.cells #[.int .i64 0, .int .i64 0, .bool false, .string ⟨#[]⟩, .bool false, .string ⟨#[]⟩, .slice none 0 0] 34)).cell? ⟨o1, 0, none⟩ = some (.string x.k.g) ∧ (w6.alloc (.cells #[.int .i64 0, .int .i64 0, .bool false, .string ⟨#[]⟩, .bool false, .string ⟨#[]⟩, .slice none 0 0] 34)).cell? ⟨o1, 1, none⟩ = some (.string x.k.t) ∧ (w6.alloc (.cells #[.int .i64 0, .int .i64 0, .bool false, .string ⟨#[]⟩, .bool false, .string ⟨#[]⟩, .slice none 0 0] 34)).cell? ⟨o1, 2, none⟩ = some (.int .i64 x.k.i) ∧ (w6.alloc (.cells #[.int .i64 0, .int .i64 0, .bool false, .string ⟨#[]⟩, .bool false, .string ⟨#[]⟩, .slice none 0 0] 34)).cell? ⟨b, off + k * 12 + 4, none⟩ = some (.int .i64 x.at_) := ⟨(hBA.cell (p := ⟨o1, 0, none⟩) ql).trans q0, (hBA.cell (p := ⟨o1, 1, none⟩) ql).trans q1, (hBA.cell (p := ⟨o1, 2, none⟩) ql).trans q2, (hBA.cell (p := ⟨b, off + k * 12 + 4, none⟩) hbl).trans z4⟩
              refine hK.out _ _ (hS6) (fun hHeld => ?_)
              clear hK K
              try simp only [Act.put, List.setIfInBounds_toArray, List.set_cons_zero, List.set_cons_succ]
              refine wpAnyH_ready (rs := [12]) (by kernel_rfl) (by simp) ?_
              refine consL rfl (by kernel_rfl) (fun K hK => ?_) AllReadyH.nil
              go_simp
              have hBA := (Below.refl w6.heap.size w6).alloc (Nat.le_refl _) (.cells #[.int .i64 0, .int .i64 k, .bool false, .string KT, .bool GB, .string VT, .slice none 0 0] 34)
              have hS7 : (w6.alloc (.cells #[.int .i64 0, .int .i64 k, .bool false, .string KT, .bool GB, .string VT, .slice none 0 0] 34)).cell? ⟨o1, 0, none⟩ = some (.string x.k.g) ∧ (w6.alloc (.cells #[.int .i64 0, .int .i64 k, .bool false, .string KT, .bool GB, .string VT, .slice none 0 0] 34)).cell? ⟨o1, 1, none⟩ = some (.string x.k.t) ∧ (w6.alloc (.cells #[.int .i64 0, .int .i64 k, .bool false, .string KT, .bool GB, .string VT, .slice none 0 0] 34)).cell? ⟨o1, 2, none⟩ = some (.int .i64 x.k.i) ∧ (w6.alloc (.cells #[.int .i64 0, .int .i64 k, .bool false, .string KT, .bool GB, .string VT, .slice none 0 0] 34)).cell? ⟨b, off + k * 12 + 4, none⟩ = some (.int .i64 x.at_) := ⟨(hBA.cell (p := ⟨o1, 0, none⟩) ql).trans q0, (hBA.cell (p := ⟨o1, 1, none⟩) ql).trans q1, (hBA.cell (p := ⟨o1, 2, none⟩) ql).trans q2, (hBA.cell (p := ⟨b, off + k * 12 + 4, none⟩) hbl).trans z4⟩
              refine hK.out _ _ (hS7) (fun hHeld => ?_)
              clear hK K
              try simp only [Act.put, List.setIfInBounds_toArray, List.set_cons_zero, List.set_cons_succ]
              refine takeW (i := 13) (v := ?v5011) rfl (by kernel_rfl) (by kernel_rfl) (by kernel_rfl) (fun _ _ _ h => h) (by kernel_rfl) hHeld ?hy5011 ?rest5011
              case hy5011 => (intro w hSw; (try dsimp only at hSw); go_simp; (try with_reducible rfl))
              try simp only [Act.put, List.setIfInBounds_toArray, List.set_cons_zero, List.set_cons_succ]
              refine wpAnyH_done (by kernel_rfl) ?_ _
              have hBR := (Below.refl w6.heap.size w6).alloc (Nat.le_refl _) (.cells #[.int .i64 0, .int .i64 k, .bool false, .string KT, .bool GB, .string VT, .slice none 0 0] 34)
              have HM2 := Lib.hid (HK.out.later hBR)
              have HR2 := Lib.hid (Box.new w6 34 #[.int .i64 0, .int .i64 k, .bool false, .string KT, .bool GB, .string VT, .slice none 0 0])
              clear hBR hBA hS5 hS6 hS7 hS4 hHeld r0 r1 r2 r3 r4 r5 r6 f0 f1 f2 f3 f4 f5 f6 rl q0 q1 q2 ql z1 z2 z3 z4 hbl HK
              generalize (w6.alloc (.cells #[.int .i64 0, .int .i64 k, .bool false, .string KT, .bool GB, .string VT, .slice none 0 0] 34)) = w7 at *
              generalize w6.heap.size = o2 at *
              obtain ⟨b', off', hA', hbl, _, z1, z2, z3, z4⟩ := oo_cells HL.out HM2.out.below HX.out
              injection hA' with hA'
              injection hA' with e1 e2 _
              subst e1 e2
              obtain ⟨q0, q1, q2, ql, _, _, _⟩ := ky3 HM2.out.kb
              have HM3 : Hid (LaI W p g q h F F o1 x.k w7) := Lib.hid (by have := HM2.out; rw [HCS.out] at this; exact this)
              clear HM2 HCS
              have hat := HAT.out
              rw [hat] at z4
              go_wp2_with fail
              exact ⟨⟨k + 1, by go_num, hkn, F, by have := HF.out; omega, ⟨HM3.out.ota, HM3.out.otb, HM3.out.gh, HM3.out.below⟩⟩, by simp [intOf]; omega⟩
            · go_simp
              have hBz : Below w5.heap.size w5 (w5.alloc (.cells #[.int .i64 0, .int .i64 0, .bool false, .string ⟨#[]⟩, .bool false, .string ⟨#[]⟩, .slice none 0 0] 34)).drew := ((Below.refl w5.heap.size w5).alloc (Nat.le_refl _) _).trans ((Below.refl _ _).drew)
              have hBz0 : Box (w5.alloc (.cells #[.int .i64 0, .int .i64 0, .bool false, .string ⟨#[]⟩, .bool false, .string ⟨#[]⟩, .slice none 0 0] 34)).drew w5.heap.size 34 #[.int .i64 0, .int .i64 0, .bool false, .string ⟨#[]⟩, .bool false, .string ⟨#[]⟩, .slice none 0 0] := Box.new w5 _ _
              have hS5 : (w5.alloc (.cells #[.int .i64 0, .int .i64 0, .bool false, .string ⟨#[]⟩, .bool false, .string ⟨#[]⟩, .slice none 0 0] 34)).drew.cell? ⟨o1, 0, none⟩ = some (.string x.k.g) ∧ (w5.alloc (.cells #[.int .i64 0, .int .i64 0, .bool false, .string ⟨#[]⟩, .bool false, .string ⟨#[]⟩, .slice none 0 0] 34)).drew.cell? ⟨o1, 1, none⟩ = some (.string x.k.t) ∧ (w5.alloc (.cells #[.int .i64 0, .int .i64 0, .bool false, .string ⟨#[]⟩, .bool false, .string ⟨#[]⟩, .slice none 0 0] 34)).drew.cell? ⟨o1, 2, none⟩ = some (.int .i64 x.k.i) ∧ (w5.alloc (.cells #[.int .i64 0, .int .i64 0, .bool false, .string ⟨#[]⟩, .bool false, .string ⟨#[]⟩, .slice none 0 0] 34)).drew.cell? ⟨b, off + k * 12 + 4, none⟩ = some (.int .i64 x.at_) := ⟨(hBz.cell (p := ⟨o1, 0, none⟩) ql).trans q0, (hBz.cell (p := ⟨o1, 1, none⟩) ql).trans q1, (hBz.cell (p := ⟨o1, 2, none⟩) ql).trans q2, (hBz.cell (p := ⟨b, off + k * 12 + 4, none⟩) hbl).trans z4⟩
              refine hK.out _ _ (hS5) (fun hHeld => ?_)
              clear hK K
              try simp only [Act.put, List.setIfInBounds_toArray, List.set_cons_zero, List.set_cons_succ]
              refine wpAnyH_ready (rs := [7]) (by kernel_rfl) (by simp) ?_
              refine consL rfl (by kernel_rfl) (fun K hK => ?_) AllReadyH.nil
              go_simp
              with_reducible refine (cE _).mono ?_
              rintro en w6 ⟨rfl, hb⟩
              have hBk : Below w5.heap.size w5 w6 := hBz.trans (hb.mono hBz.size)
              have hBx := hBz0.later hb
              have HK := Lib.hid (HJ.out.later hBk)
              clear hb cE q0 q1 q2 ql z1 z2 z3 z4 hbl
              obtain ⟨b', off', hA', hbl, _, z1, z2, z3, z4⟩ := oo_cells HL.out HK.out.below HX.out
              injection hA' with hA'
              injection hA' with e1 e2 _
              subst e1 e2
              obtain ⟨q0, q1, q2, ql, _, _, _⟩ := ky3 HK.out.kb
              have hS6 := And.intro q0 (And.intro q1 (And.intro q2 z4))
              refine hK.out _ _ (hS6) (fun hHeld => ?_)
              clear hK K
              try simp only [Act.put, List.setIfInBounds_toArray, List.set_cons_zero, List.set_cons_succ]
              refine takeW (i := 8) (v := ?v5012) rfl (by kernel_rfl) (by kernel_rfl) (by kernel_rfl) (fun _ _ _ h => h) (by kernel_rfl) hHeld ?hy5012 ?rest5012
              case hy5012 => (intro w hSw; (try dsimp only at hSw); go_simp; (try with_reducible rfl))
              try simp only [Act.put, List.setIfInBounds_toArray, List.set_cons_zero, List.set_cons_succ]
              refine takeW (i := 9) (v := ?v5013) rfl (by kernel_rfl) (by kernel_rfl) (by kernel_rfl) (fun _ _ _ h => h) (by kernel_rfl) hHeld ?hy5013 ?rest5013
              case hy5013 => (intro w hSw; (try dsimp only at hSw); go_simp; (try with_reducible rfl))
              try simp only [Act.put, List.setIfInBounds_toArray, List.set_cons_zero, List.set_cons_succ]
              refine takeW (i := 10) (v := ?v5014) rfl (by kernel_rfl) (by kernel_rfl) (by kernel_rfl) (fun _ _ _ h => h) (by kernel_rfl) hHeld ?hy5014 ?rest5014
              case hy5014 => (intro w hSw; (try dsimp only at hSw); go_simp; (try with_reducible rfl))
              try simp only [Act.put, List.setIfInBounds_toArray, List.set_cons_zero, List.set_cons_succ]
              refine wpAnyH_ready (rs := [12]) (by kernel_rfl) (by simp) ?_
              refine consL rfl (by kernel_rfl) (fun K hK => ?_) AllReadyH.nil
              obtain ⟨⟨r0, r1, r2, r3, r4, r5, r6⟩, ⟨f0, f1, f2, f3, f4, f5, f6⟩, rl⟩ := box7 hBx
              go_simp
              have hB7 : Below w5.heap.size w5 (set7 w6 w5.heap.size (.int .i64 0) (.int .i64 k) (.bool false) (.string KT) (.bool GB) (.string VT) (.slice none 0 0)) := hBk.trans ((set7_off w6 w5.heap.size _ _ _ _ _ _ _).below hBk.size (fun j hj => by omega))
              have HM2 := Lib.hid (HJ.out.later hB7)
              have HR2 := Lib.hid (set7_box hBx (.int .i64 0) (.int .i64 k) (.bool false) (.string KT) (.bool GB) (.string VT) (.slice none 0 0))
              clear q0 q1 q2 ql z1 z2 z3 z4 hbl
              obtain ⟨b', off', hA', hbl, _, z1, z2, z3, z4⟩ := oo_cells HL.out HM2.out.below HX.out
              injection hA' with hA'
              injection hA' with e1 e2 _
              subst e1 e2
              obtain ⟨q0, q1, q2, ql, _, _, _⟩ := ky3 HM2.out.kb
              refine hK.out _ _ (And.intro q0 (And.intro q1 (And.intro q2 z4))) (fun hHeld => ?_)
              clear hK K
              try simp only [Act.put, List.setIfInBounds_toArray, List.set_cons_zero, List.set_cons_succ]
              refine takeW (i := 13) (v := ?v5015) rfl (by kernel_rfl) (by kernel_rfl) (by kernel_rfl) (fun _ _ _ h => h) (by kernel_rfl) hHeld ?hy5015 ?rest5015
              case hy5015 => (intro w hSw; (try dsimp only at hSw); go_simp; (try with_reducible rfl))
              try simp only [Act.put, List.setIfInBounds_toArray, List.set_cons_zero, List.set_cons_succ]
              refine wpAnyH_done (by kernel_rfl) ?_ _
              clear hS5 hS6 hS4 hHeld r0 r1 r2 r3 r4 r5 r6 f0 f1 f2 f3 f4 f5 f6 rl q0 q1 q2 ql z1 z2 z3 z4 hbl HK HJ HJD hBz hBz0 hBx hBk hB7
              obtain ⟨w7, hw7⟩ : ∃ w7, (set7 w6 w5.heap.size (.int .i64 0) (.int .i64 k) (.bool false) (.string KT) (.bool GB) (.string VT) (.slice none 0 0)) = w7 := ⟨_, rfl⟩
              have hw8 : (((((((w6.setCell ⟨w5.heap.size, 0, none⟩ (.int .i64 0)).setCell ⟨w5.heap.size, 1, none⟩ (.int .i64 k)).setCell ⟨w5.heap.size, 2, none⟩ (.bool false)).setCell ⟨w5.heap.size, 3, none⟩ (.string KT)).setCell ⟨w5.heap.size, 4, none⟩ (.bool GB)).setCell ⟨w5.heap.size, 5, none⟩ (.string VT)).setCell ⟨w5.heap.size, 6, none⟩ (.slice none 0 0)) = w7 := hw7
              rw [hw7] at HM2 HR2
              rw [hw8]
              clear hw7 hw8
              generalize w5.heap.size = o2 at *
              obtain ⟨b', off', hA', hbl, _, z1, z2, z3, z4⟩ := oo_cells HL.out HM2.out.below HX.out
              injection hA' with hA'
              injection hA' with e1 e2 _
              subst e1 e2
              obtain ⟨q0, q1, q2, ql, _, _, _⟩ := ky3 HM2.out.kb
              have HM3 : Hid (LaI W p g q h F F o1 x.k w7) := Lib.hid (by have := HM2.out; rw [HCS.out] at this; exact this)
              clear HM2 HCS
              have hat := HAT.out
              rw [hat] at z4
              go_wp2_with fail
              exact ⟨⟨k + 1, by go_num, hkn, F, by have := HF.out; omega, ⟨HM3.out.ota, HM3.out.otb, HM3.out.gh, HM3.out.below⟩⟩, by simp [intOf]; omega⟩
          | false =>
            have hCO : coR 100 F x.k x.at_ = 1 := by rw [hat]; exact commit_gone.1
            have HCS : Hid (coS 100 F x.k x.at_ = F) := Lib.hid (by rw [hat]; exact commit_gone.2)
            have cE := fun w => entry_not hE w
            have HAT := Lib.hid hat
            clear hat hE
            go_wp2_with fail
            have hS0 : wr.drew.cell? ⟨b, off + k * 12 + 1, none⟩ = some (.string x.k.g) ∧ wr.drew.cell? ⟨b, off + k * 12 + 2, none⟩ = some (.string x.k.t) ∧ wr.drew.cell? ⟨b, off + k * 12 + 3, none⟩ = some (.int .i64 x.k.i) ∧ wr.drew.cell? ⟨b, off + k * 12 + 4, none⟩ = some (.int .i64 x.at_) := ⟨z1, z2, z3, z4⟩
            have hD := (Below.refl wr.heap.size wr).drew
            refine wp_region_held_drew (S := (fun w => w.cell? ⟨b, off + k * 12 + 1, none⟩ = some (.string x.k.g) ∧ w.cell? ⟨b, off + k * 12 + 2, none⟩ = some (.string x.k.t) ∧ w.cell? ⟨b, off + k * 12 + 3, none⟩ = some (.int .i64 x.k.i) ∧ w.cell? ⟨b, off + k * 12 + 4, none⟩ = some (.int .i64 x.at_))) (by kernel_rfl) hS0 (fun hHeld => ?_)
            refine takeW (i := 0) (v := ?v20) rfl (by kernel_rfl) (by kernel_rfl) (by kernel_rfl) (fun _ _ _ h => h) (by kernel_rfl) hHeld ?hy20 ?rest20
            case hy20 => (intro w hSw; (try dsimp only at hSw); go_simp; (try with_reducible rfl))
            try simp only [Act.put, List.setIfInBounds_toArray, List.set_cons_zero, List.set_cons_succ]
            refine takeW (i := 1) (v := ?v21) rfl (by kernel_rfl) (by kernel_rfl) (by kernel_rfl) (fun _ _ _ h => h) (by kernel_rfl) hHeld ?hy21 ?rest21
            case hy21 => (intro w hSw; (try dsimp only at hSw); go_simp; (try with_reducible rfl))
            try simp only [Act.put, List.setIfInBounds_toArray, List.set_cons_zero, List.set_cons_succ]
            refine takeW (i := 2) (v := ?v22) rfl (by kernel_rfl) (by kernel_rfl) (by kernel_rfl) (fun _ _ _ h => h) (by kernel_rfl) hHeld ?hy22 ?rest22
            case hy22 => (intro w hSw; (try dsimp only at hSw); go_simp; (try with_reducible rfl))
            try simp only [Act.put, List.setIfInBounds_toArray, List.set_cons_zero, List.set_cons_succ]
            refine takeW (i := 3) (v := ?v23) rfl (by kernel_rfl) (by kernel_rfl) (by kernel_rfl) (fun _ _ _ h => h) (by kernel_rfl) hHeld ?hy23 ?rest23
            case hy23 => (intro w hSw; (try dsimp only at hSw); go_simp; (try with_reducible rfl))
            try simp only [Act.put, List.setIfInBounds_toArray, List.set_cons_zero, List.set_cons_succ]
            refine takeW (i := 4) (v := ?v24) rfl (by kernel_rfl) (by kernel_rfl) (by kernel_rfl) (fun _ _ _ h => h) (by kernel_rfl) hHeld ?hy24 ?rest24
            case hy24 => (intro w hSw; (try dsimp only at hSw); go_simp; (try with_reducible rfl))
            try simp only [Act.put, List.setIfInBounds_toArray, List.set_cons_zero, List.set_cons_succ]
            refine takeW (i := 5) (v := ?v25) rfl (by kernel_rfl) (by kernel_rfl) (by kernel_rfl) (fun _ _ _ h => h) (by kernel_rfl) hHeld ?hy25 ?rest25
            case hy25 => (intro w hSw; (try dsimp only at hSw); go_simp; (try with_reducible rfl))
            try simp only [Act.put, List.setIfInBounds_toArray, List.set_cons_zero, List.set_cons_succ]
            refine takeW (i := 6) (v := ?v26) rfl (by kernel_rfl) (by kernel_rfl) (by kernel_rfl) (fun _ _ _ h => h) (by kernel_rfl) hHeld ?hy26 ?rest26
            case hy26 => (intro w hSw; (try dsimp only at hSw); go_simp; (try with_reducible rfl))
            try simp only [Act.put, List.setIfInBounds_toArray, List.set_cons_zero, List.set_cons_succ]
            refine takeW (i := 7) (v := ?v27) rfl (by kernel_rfl) (by kernel_rfl) (by kernel_rfl) (fun _ _ _ h => h) (by kernel_rfl) hHeld ?hy27 ?rest27
            case hy27 => (intro w hSw; (try dsimp only at hSw); go_simp; (try with_reducible rfl))
            try simp only [Act.put, List.setIfInBounds_toArray, List.set_cons_zero, List.set_cons_succ]
            refine takeW (i := 8) (v := ?v28) rfl (by kernel_rfl) (by kernel_rfl) (by kernel_rfl) (fun _ _ _ h => h) (by kernel_rfl) hHeld ?hy28 ?rest28
            case hy28 => (intro w hSw; (try dsimp only at hSw); go_simp; (try with_reducible rfl))
            try simp only [Act.put, List.setIfInBounds_toArray, List.set_cons_zero, List.set_cons_succ]
            refine takeW (i := 9) (v := ?v29) rfl (by kernel_rfl) (by kernel_rfl) (by kernel_rfl) (fun _ _ _ h => h) (by kernel_rfl) hHeld ?hy29 ?rest29
            case hy29 => (intro w hSw; (try dsimp only at hSw); go_simp; (try with_reducible rfl))
            try simp only [Act.put, List.setIfInBounds_toArray, List.set_cons_zero, List.set_cons_succ]
            refine takeW (i := 10) (v := ?v30) rfl (by kernel_rfl) (by kernel_rfl) (by kernel_rfl) (fun _ _ _ h => h) (by kernel_rfl) hHeld ?hy30 ?rest30
            case hy30 => (intro w hSw; (try dsimp only at hSw); go_simp; (try with_reducible rfl))
            try simp only [Act.put, List.setIfInBounds_toArray, List.set_cons_zero, List.set_cons_succ]
            refine wpAnyH_ready (rs := [11]) (by kernel_rfl) (by simp) ?_
            refine consL rfl (by kernel_rfl) (fun K hK => ?_) AllReadyH.nil
            go_simp
            have hBA := hD.trans ((Below.refl wr.heap.size wr.drew).alloc (Nat.le_refl _) (.cells #[.string ⟨#[]⟩, .string ⟨#[]⟩, .int .i64 0] 45))
            have hbx : Box (wr.alloc (.cells #[.string ⟨#[]⟩, .string ⟨#[]⟩, .int .i64 0] 45)).drew wr.heap.size 45 #[.string ⟨#[]⟩, .string ⟨#[]⟩, .int .i64 0] := Box.new wr _ _
            have hS1 : (wr.alloc (.cells #[.string ⟨#[]⟩, .string ⟨#[]⟩, .int .i64 0] 45)).drew.cell? ⟨b, off + k * 12 + 1, none⟩ = some (.string x.k.g) ∧ (wr.alloc (.cells #[.string ⟨#[]⟩, .string ⟨#[]⟩, .int .i64 0] 45)).drew.cell? ⟨b, off + k * 12 + 2, none⟩ = some (.string x.k.t) ∧ (wr.alloc (.cells #[.string ⟨#[]⟩, .string ⟨#[]⟩, .int .i64 0] 45)).drew.cell? ⟨b, off + k * 12 + 3, none⟩ = some (.int .i64 x.k.i) ∧ (wr.alloc (.cells #[.string ⟨#[]⟩, .string ⟨#[]⟩, .int .i64 0] 45)).drew.cell? ⟨b, off + k * 12 + 4, none⟩ = some (.int .i64 x.at_) := ⟨(hBA.cell (p := ⟨b, off + k * 12 + 1, none⟩) hbl).trans z1, (hBA.cell (p := ⟨b, off + k * 12 + 2, none⟩) hbl).trans z2, (hBA.cell (p := ⟨b, off + k * 12 + 3, none⟩) hbl).trans z3, (hBA.cell (p := ⟨b, off + k * 12 + 4, none⟩) hbl).trans z4⟩
            refine hK.out _ _ (hS1) (fun hHeld => ?_)
            clear hK K
            try simp only [Act.put, List.setIfInBounds_toArray, List.set_cons_zero, List.set_cons_succ]
            refine wpAnyH_ready (rs := [12]) (by kernel_rfl) (by simp) ?_
            refine consL rfl (by kernel_rfl) (fun K hK => ?_) AllReadyH.nil
            go_simp
            have hBA := hD.trans ((Below.refl wr.heap.size wr.drew).alloc (Nat.le_refl _) (.cells #[.string x.k.g, .string x.k.t, .int .i64 x.k.i] 45))
            have hS2 : (wr.alloc (.cells #[.string x.k.g, .string x.k.t, .int .i64 x.k.i] 45)).drew.cell? ⟨b, off + k * 12 + 1, none⟩ = some (.string x.k.g) ∧ (wr.alloc (.cells #[.string x.k.g, .string x.k.t, .int .i64 x.k.i] 45)).drew.cell? ⟨b, off + k * 12 + 2, none⟩ = some (.string x.k.t) ∧ (wr.alloc (.cells #[.string x.k.g, .string x.k.t, .int .i64 x.k.i] 45)).drew.cell? ⟨b, off + k * 12 + 3, none⟩ = some (.int .i64 x.k.i) ∧ (wr.alloc (.cells #[.string x.k.g, .string x.k.t, .int .i64 x.k.i] 45)).drew.cell? ⟨b, off + k * 12 + 4, none⟩ = some (.int .i64 x.at_) := ⟨(hBA.cell (p := ⟨b, off + k * 12 + 1, none⟩) hbl).trans z1, (hBA.cell (p := ⟨b, off + k * 12 + 2, none⟩) hbl).trans z2, (hBA.cell (p := ⟨b, off + k * 12 + 3, none⟩) hbl).trans z3, (hBA.cell (p := ⟨b, off + k * 12 + 4, none⟩) hbl).trans z4⟩
            refine hK.out _ _ (hS2) (fun hHeld => ?_)
            clear hK K
            try simp only [Act.put, List.setIfInBounds_toArray, List.set_cons_zero, List.set_cons_succ]
            refine wpAnyH_done (by kernel_rfl) ?_ _
            have hX1 : Box (wr.alloc (.cells #[.string x.k.g, .string x.k.t, .int .i64 x.k.i] 45)).drew wr.heap.size 45 #[.string x.k.g, .string x.k.t, .int .i64 x.k.i] := Box.new wr _ _
            have hBK := hD.trans ((Below.refl wr.heap.size wr.drew).alloc (Nat.le_refl _) (.cells #[.string x.k.g, .string x.k.t, .int .i64 x.k.i] 45))
            have HI : Hid (LaI W p g q h F F wr.heap.size x.k (wr.alloc (.cells #[.string x.k.g, .string x.k.t, .int .i64 x.k.i] 45)).drew) := Lib.hid ⟨HO.out.ota.later hBK, HO.out.otb.later hBK, HO.out.gh, hX1, HO.out.below.trans (hBK.mono HO.out.below.size)⟩
            clear hBK hX1 hD z1 z2 z3 z4 hbl hS0 hS1 hS2 hbx hHeld HO
            generalize (wr.alloc (.cells #[.string x.k.g, .string x.k.t, .int .i64 x.k.i] 45)).drew = w4 at *
            generalize wr.heap.size = o1 at *
            obtain ⟨b', off', hA', hbl, _, z1, z2, z3, z4⟩ := oo_cells HL.out HI.out.below HX.out
            injection hA' with hA'
            injection hA' with e1 e2 _
            subst e1 e2
            obtain ⟨q0, q1, q2, ql, _, _, _⟩ := ky3 HI.out.kb
            go_wp2_with fail
            have hS0 : w4.drew.cell? ⟨o1, 0, none⟩ = some (.string x.k.g) ∧ w4.drew.cell? ⟨o1, 1, none⟩ = some (.string x.k.t) ∧ w4.drew.cell? ⟨o1, 2, none⟩ = some (.int .i64 x.k.i) ∧ w4.drew.cell? ⟨b, off + k * 12 + 4, none⟩ = some (.int .i64 x.at_) := ⟨q0, q1, q2, z4⟩
            have HID := Lib.hid (HI.out.later (Below.refl _ _).drew)
            have cm1 := commit_v HID.out.ota x.k x.at_
            rw [hCO] at cm1
            refine wp_region_held_drew (S := (fun w => w.cell? ⟨o1, 0, none⟩ = some (.string x.k.g) ∧ w.cell? ⟨o1, 1, none⟩ = some (.string x.k.t) ∧ w.cell? ⟨o1, 2, none⟩ = some (.int .i64 x.k.i) ∧ w.cell? ⟨b, off + k * 12 + 4, none⟩ = some (.int .i64 x.at_))) (by kernel_rfl) hS0 (fun hHeld => ?_)
            refine takeW (i := 0) (v := ?v31) rfl (by kernel_rfl) (by kernel_rfl) (by kernel_rfl) (fun _ _ _ h => h) (by kernel_rfl) hHeld ?hy31 ?rest31
            case hy31 => (intro w hSw; (try dsimp only at hSw); go_simp; (try with_reducible rfl))
            try simp only [Act.put, List.setIfInBounds_toArray, List.set_cons_zero, List.set_cons_succ]
            refine takeW (i := 1) (v := ?v32) rfl (by kernel_rfl) (by kernel_rfl) (by kernel_rfl) (fun _ _ _ h => h) (by kernel_rfl) hHeld ?hy32 ?rest32
            case hy32 => (intro w hSw; (try dsimp only at hSw); go_simp; (try with_reducible rfl))
            try simp only [Act.put, List.setIfInBounds_toArray, List.set_cons_zero, List.set_cons_succ]
            refine takeW (i := 2) (v := ?v33) rfl (by kernel_rfl) (by kernel_rfl) (by kernel_rfl) (fun _ _ _ h => h) (by kernel_rfl) hHeld ?hy33 ?rest33
            case hy33 => (intro w hSw; (try dsimp only at hSw); go_simp; (try with_reducible rfl))
            try simp only [Act.put, List.setIfInBounds_toArray, List.set_cons_zero, List.set_cons_succ]
            refine takeW (i := 3) (v := ?v34) rfl (by kernel_rfl) (by kernel_rfl) (by kernel_rfl) (fun _ _ _ h => h) (by kernel_rfl) hHeld ?hy34 ?rest34
            case hy34 => (intro w hSw; (try dsimp only at hSw); go_simp; (try with_reducible rfl))
            try simp only [Act.put, List.setIfInBounds_toArray, List.set_cons_zero, List.set_cons_succ]
            refine takeW (i := 4) (v := ?v35) rfl (by kernel_rfl) (by kernel_rfl) (by kernel_rfl) (fun _ _ _ h => h) (by kernel_rfl) hHeld ?hy35 ?rest35
            case hy35 => (intro w hSw; (try dsimp only at hSw); go_simp; (try with_reducible rfl))
            try simp only [Act.put, List.setIfInBounds_toArray, List.set_cons_zero, List.set_cons_succ]
            refine takeW (i := 5) (v := ?v36) rfl (by kernel_rfl) (by kernel_rfl) (by kernel_rfl) (fun _ _ _ h => h) (by kernel_rfl) hHeld ?hy36 ?rest36
            case hy36 => (intro w hSw; (try dsimp only at hSw); go_simp; (try with_reducible rfl))
            try simp only [Act.put, List.setIfInBounds_toArray, List.set_cons_zero, List.set_cons_succ]
            refine takeW (i := 6) (v := ?v37) rfl (by kernel_rfl) (by kernel_rfl) (by kernel_rfl) (fun _ _ _ h => h) (by kernel_rfl) hHeld ?hy37 ?rest37
            case hy37 => (intro w hSw; (try dsimp only at hSw); go_simp; (try with_reducible rfl))
            try simp only [Act.put, List.setIfInBounds_toArray, List.set_cons_zero, List.set_cons_succ]
            refine wpAnyH_ready (rs := [7]) (by kernel_rfl) (by simp) ?_
            refine consL rfl (by kernel_rfl) (fun K hK => ?_) AllReadyH.nil
            go_simp
            with_reducible refine cm1.mono ?_
            rintro en w5 ⟨rfl, hw⟩
            have HJ := Lib.hid (HID.out.wra hw)
            clear hw cm1 q0 q1 q2 ql z1 z2 z3 z4 hbl HI HID
            obtain ⟨b', off', hA', hbl, _, z1, z2, z3, z4⟩ := oo_cells HL.out HJ.out.below HX.out
            injection hA' with hA'
            injection hA' with e1 e2 _
            subst e1 e2
            obtain ⟨q0, q1, q2, ql, _, _, _⟩ := ky3 HJ.out.kb
            have hS3 := And.intro q0 (And.intro q1 (And.intro q2 z4))
            refine hK.out _ _ (hS3) (fun hHeld => ?_)
            clear hK K
            try simp only [Act.put, List.setIfInBounds_toArray, List.set_cons_zero, List.set_cons_succ]
            refine takeW (i := 8) (v := ?v38) rfl (by kernel_rfl) (by kernel_rfl) (by kernel_rfl) (fun _ _ _ h => h) (by kernel_rfl) hHeld ?hy38 ?rest38
            case hy38 => (intro w hSw; (try dsimp only at hSw); go_simp; (try with_reducible rfl))
            try simp only [Act.put, List.setIfInBounds_toArray, List.set_cons_zero, List.set_cons_succ]
            refine wpAnyH_done (by kernel_rfl) ?_ _
            clear hHeld hS0
            go_wp2_with fail
            have hS4 : w5.drew.cell? ⟨o1, 0, none⟩ = some (.string x.k.g) ∧ w5.drew.cell? ⟨o1, 1, none⟩ = some (.string x.k.t) ∧ w5.drew.cell? ⟨o1, 2, none⟩ = some (.int .i64 x.k.i) ∧ w5.drew.cell? ⟨b, off + k * 12 + 4, none⟩ = some (.int .i64 x.at_) := ⟨q0, q1, q2, z4⟩
            have HJD := Lib.hid (HJ.out.later (Below.refl _ _).drew)
            refine wp_region_held_drew (S := (fun w => w.cell? ⟨o1, 0, none⟩ = some (.string x.k.g) ∧ w.cell? ⟨o1, 1, none⟩ = some (.string x.k.t) ∧ w.cell? ⟨o1, 2, none⟩ = some (.int .i64 x.k.i) ∧ w.cell? ⟨b, off + k * 12 + 4, none⟩ = some (.int .i64 x.at_))) (by kernel_rfl) hS4 (fun hHeld => ?_)
            refine takeW (i := 0) (v := ?v5016) rfl (by kernel_rfl) (by kernel_rfl) (by kernel_rfl) (fun _ _ _ h => h) (by kernel_rfl) hHeld ?hy5016 ?rest5016
            case hy5016 => (intro w hSw; (try dsimp only at hSw); go_simp; (try with_reducible rfl))
            try simp only [Act.put, List.setIfInBounds_toArray, List.set_cons_zero, List.set_cons_succ]
            refine takeW (i := 1) (v := ?v5017) rfl (by kernel_rfl) (by kernel_rfl) (by kernel_rfl) (fun _ _ _ h => h) (by kernel_rfl) hHeld ?hy5017 ?rest5017
            case hy5017 => (intro w hSw; (try dsimp only at hSw); go_simp; (try with_reducible rfl))
            try simp only [Act.put, List.setIfInBounds_toArray, List.set_cons_zero, List.set_cons_succ]
            refine takeW (i := 2) (v := ?v5018) rfl (by kernel_rfl) (by kernel_rfl) (by kernel_rfl) (fun _ _ _ h => h) (by kernel_rfl) hHeld ?hy5018 ?rest5018
            case hy5018 => (intro w hSw; (try dsimp only at hSw); go_simp; (try with_reducible rfl))
            try simp only [Act.put, List.setIfInBounds_toArray, List.set_cons_zero, List.set_cons_succ]
            refine takeW (i := 3) (v := ?v5019) rfl (by kernel_rfl) (by kernel_rfl) (by kernel_rfl) (fun _ _ _ h => h) (by kernel_rfl) hHeld ?hy5019 ?rest5019
            case hy5019 => (intro w hSw; (try dsimp only at hSw); go_simp; (try with_reducible rfl))
            try simp only [Act.put, List.setIfInBounds_toArray, List.set_cons_zero, List.set_cons_succ]
            refine takeW (i := 4) (v := ?v5020) rfl (by kernel_rfl) (by kernel_rfl) (by kernel_rfl) (fun _ _ _ h => h) (by kernel_rfl) hHeld ?hy5020 ?rest5020
            case hy5020 => (intro w hSw; (try dsimp only at hSw); go_simp; (try with_reducible rfl))
            try simp only [Act.put, List.setIfInBounds_toArray, List.set_cons_zero, List.set_cons_succ]
            refine takeW (i := 5) (v := ?v5021) rfl (by kernel_rfl) (by kernel_rfl) (by kernel_rfl) (fun _ _ _ h => h) (by kernel_rfl) hHeld ?hy5021 ?rest5021
            case hy5021 => (intro w hSw; (try dsimp only at hSw); go_simp; (try with_reducible rfl))
            try simp only [Act.put, List.setIfInBounds_toArray, List.set_cons_zero, List.set_cons_succ]
            refine takeW (i := 6) (v := ?v5022) rfl (by kernel_rfl) (by kernel_rfl) (by kernel_rfl) (fun _ _ _ h => h) (by kernel_rfl) hHeld ?hy5022 ?rest5022
            case hy5022 => (intro w hSw; (try dsimp only at hSw); go_simp; (try with_reducible rfl))
            try simp only [Act.put, List.setIfInBounds_toArray, List.set_cons_zero, List.set_cons_succ]
            refine wpAnyH_ready (rs := [7, 11]) (by kernel_rfl) (by simp) ?_
            refine consL rfl (by kernel_rfl) (fun K hK => ?_) (consL rfl (by kernel_rfl) (fun K hK => ?_) AllReadyH.nil)
            · go_simp
              with_reducible refine (cE _).mono ?_
              rintro en w6 ⟨rfl, hb⟩
              have HK := Lib.hid (HJD.out.later hb)
              clear hb cE q0 q1 q2 ql z1 z2 z3 z4 hbl HJ HJD
              obtain ⟨b', off', hA', hbl, _, z1, z2, z3, z4⟩ := oo_cells HL.out HK.out.below HX.out
              injection hA' with hA'
              injection hA' with e1 e2 _
              subst e1 e2
              obtain ⟨q0, q1, q2, ql, _, _, _⟩ := ky3 HK.out.kb
              have hS5 := And.intro q0 (And.intro q1 (And.intro q2 z4))
              refine hK.out _ _ (hS5) (fun hHeld => ?_)
              clear hK K
              try simp only [Act.put, List.setIfInBounds_toArray, List.set_cons_zero, List.set_cons_succ]
              refine takeW (i := 8) (v := ?v5023) rfl (by kernel_rfl) (by kernel_rfl) (by kernel_rfl) (fun _ _ _ h => h) (by kernel_rfl) hHeld ?hy5023 ?rest5023
              case hy5023 => (intro w hSw; (try dsimp only at hSw); go_simp; (try with_reducible rfl))
              try simp only [Act.put, List.setIfInBounds_toArray, List.set_cons_zero, List.set_cons_succ]
              refine takeW (i := 9) (v := ?v5024) rfl (by kernel_rfl) (by kernel_rfl) (by kernel_rfl) (fun _ _ _ h => h) (by kernel_rfl) hHeld ?hy5024 ?rest5024
              case hy5024 => (intro w hSw; (try dsimp only at hSw); go_simp; (try with_reducible rfl))
              try simp only [Act.put, List.setIfInBounds_toArray, List.set_cons_zero, List.set_cons_succ]
              refine takeW (i := 10) (v := ?v5025) rfl (by kernel_rfl) (by kernel_rfl) (by kernel_rfl) (fun _ _ _ h => h) (by kernel_rfl) hHeld ?hy5025 ?rest5025
              case hy5025 => (intro w hSw; (try dsimp only at hSw); go_simp; (try with_reducible rfl))
              try simp only [Act.put, List.setIfInBounds_toArray, List.set_cons_zero, List.set_cons_succ]
              refine wpAnyH_ready (rs := [11]) (by kernel_rfl) (by simp) ?_
              refine consL rfl (by kernel_rfl) (fun K hK => ?_) AllReadyH.nil
              go_simp
              have hBA := (Below.refl w6.heap.size w6).alloc (Nat.le_refl _) (.cells #[.int .i64 0, .int .i64 0, .bool false, .string ⟨#[]⟩, .bool false, .string ⟨#[]⟩, .slice none 0 0] 34)
              obtain ⟨⟨r0, r1, r2, r3, r4, r5, r6⟩, ⟨f0, f1, f2, f3, f4, f5, f6⟩, rl⟩ := box7 (Box.new w6 34 #[.int .i64 0, .int .i64 0, .bool false, .string ⟨#[]⟩, .bool false, .string ⟨#[]⟩, .slice none 0 0])
              have hS6 : (w6.alloc (.cells #[.int .i64 0, .int .i64 0, .bool false, .string ⟨#[]⟩, .bool false, .string ⟨#[]⟩, .slice none 0 0] 34)).cell? ⟨o1, 0, none⟩ = some (.string x.k.g) ∧ (w6.alloc (.cells #[.int .i64 0, .int .i64 0, .bool false, .string ⟨#[]⟩, .bool false, .string ⟨#[]⟩, .slice none 0 0] 34)).cell? ⟨o1, 1, none⟩ = some (.string x.k.t) ∧ (w6.alloc (.cells #[.int .i64 0, .int .i64 0, .bool false, .string ⟨#[]⟩, .bool false, .string ⟨#[]⟩, .slice none 0 0] 34)).cell? ⟨o1, 2, none⟩ = some (.int .i64 x.k.i) ∧ (w6.alloc (.cells #[.int .i64 0, .int .i64 0, .bool false, .string ⟨#[]⟩, .bool false, .string ⟨#[]⟩, .slice none 0 0] 34)).cell? ⟨b, off + k * 12 + 4, none⟩ = some (.int .i64 x.at_) := ⟨(hBA.cell (p := ⟨o1, 0, none⟩) ql).trans q0, (hBA.cell (p := ⟨o1, 1, none⟩) ql).trans q1, (hBA.cell (p := ⟨o1, 2, none⟩) ql).trans q2, (hBA.cell (p := ⟨b, off + k * 12 + 4, none⟩) hbl).trans z4⟩
              refine hK.out _ _ (hS6) (fun hHeld => ?_)
              clear hK K
              try simp only [Act.put, List.setIfInBounds_toArray, List.set_cons_zero, List.set_cons_succ]
              refine wpAnyH_ready (rs := [12]) (by kernel_rfl) (by simp) ?_
              refine consL rfl (by kernel_rfl) (fun K hK => ?_) AllReadyH.nil
              go_simp
              have hBA := (Below.refl w6.heap.size w6).alloc (Nat.le_refl _) (.cells #[.int .i64 0, .int .i64 0, .bool false, .string ⟨#[]⟩, .bool false, .string ⟨#[]⟩, .slice none 0 0] 34)
              have hS7 : (w6.alloc (.cells #[.int .i64 0, .int .i64 0, .bool false, .string ⟨#[]⟩, .bool false, .string ⟨#[]⟩, .slice none 0 0] 34)).cell? ⟨o1, 0, none⟩ = some (.string x.k.g) ∧ (w6.alloc (.cells #[.int .i64 0, .int .i64 0, .bool false, .string ⟨#[]⟩, .bool false, .string ⟨#[]⟩, .slice none 0 0] 34)).cell? ⟨o1, 1, none⟩ = some (.string x.k.t) ∧ (w6.alloc (.cells #[.int .i64 0, .int .i64 0, .bool false, .string ⟨#[]⟩, .bool false, .string ⟨#[]⟩, .slice none 0 0] 34)).cell? ⟨o1, 2, none⟩ = some (.int .i64 x.k.i) ∧ (w6.alloc (.cells #[.int .i64 0, .int .i64 0, .bool false, .string ⟨#[]⟩, .bool false, .string ⟨#[]⟩, .slice none 0 0] 34)).cell? ⟨b, off + k * 12 + 4, none⟩ = some (.int .i64 x.at_) := ⟨(hBA.cell (p := ⟨o1, 0, none⟩) ql).trans q0, (hBA.cell (p := ⟨o1, 1, none⟩) ql).trans q1, (hBA.cell (p := ⟨o1, 2, none⟩) ql).trans q2, (hBA.cell (p := ⟨b, off + k * 12 + 4, none⟩) hbl).trans z4⟩
              refine hK.out _ _ (hS7) (fun hHeld => ?_)
              clear hK K
              try simp only [Act.put, List.setIfInBounds_toArray, List.set_cons_zero, List.set_cons_succ]
              refine takeW (i := 13) (v := ?v5026) rfl (by kernel_rfl) (by kernel_rfl) (by kernel_rfl) (fun _ _ _ h => h) (by kernel_rfl) hHeld ?hy5026 ?rest5026
              case hy5026 => (intro w hSw; (try dsimp only at hSw); go_simp; (try with_reducible rfl))
              try simp only [Act.put, List.setIfInBounds_toArray, List.set_cons_zero, List.set_cons_succ]
              refine wpAnyH_done (by kernel_rfl) ?_ _
              have hBR := (Below.refl w6.heap.size w6).alloc (Nat.le_refl _) (.cells #[.int .i64 0, .int .i64 0, .bool false, .string ⟨#[]⟩, .bool false, .string ⟨#[]⟩, .slice none 0 0] 34)
              have HM2 := Lib.hid (HK.out.later hBR)
              have HR2 := Lib.hid (Box.new w6 34 #[.int .i64 0, .int .i64 0, .bool false, .string ⟨#[]⟩, .bool false, .string ⟨#[]⟩, .slice none 0 0])
              clear hBR hBA hS5 hS6 hS7 hS4 hHeld r0 r1 r2 r3 r4 r5 r6 f0 f1 f2 f3 f4 f5 f6 rl q0 q1 q2 ql z1 z2 z3 z4 hbl HK
              generalize (w6.alloc (.cells #[.int .i64 0, .int .i64 0, .bool false, .string ⟨#[]⟩, .bool false, .string ⟨#[]⟩, .slice none 0 0] 34)) = w7 at *
              generalize w6.heap.size = o2 at *
              obtain ⟨b', off', hA', hbl, _, z1, z2, z3, z4⟩ := oo_cells HL.out HM2.out.below HX.out
              injection hA' with hA'
              injection hA' with e1 e2 _
              subst e1 e2
              obtain ⟨q0, q1, q2, ql, _, _, _⟩ := ky3 HM2.out.kb
              have HM3 : Hid (LaI W p g q h F F o1 x.k w7) := Lib.hid (by have := HM2.out; rw [HCS.out] at this; exact this)
              clear HM2 HCS
              have hat := HAT.out
              rw [hat] at z4
              go_wp2_with fail
              exact ⟨⟨k + 1, by go_num, hkn, F, by have := HF.out; omega, ⟨HM3.out.ota, HM3.out.otb, HM3.out.gh, HM3.out.below⟩⟩, by simp [intOf]; omega⟩
            · go_simp
              have hBz : Below w5.heap.size w5 (w5.alloc (.cells #[.int .i64 0, .int .i64 0, .bool false, .string ⟨#[]⟩, .bool false, .string ⟨#[]⟩, .slice none 0 0] 34)).drew := ((Below.refl w5.heap.size w5).alloc (Nat.le_refl _) _).trans ((Below.refl _ _).drew)
              have hBz0 : Box (w5.alloc (.cells #[.int .i64 0, .int .i64 0, .bool false, .string ⟨#[]⟩, .bool false, .string ⟨#[]⟩, .slice none 0 0] 34)).drew w5.heap.size 34 #[.int .i64 0, .int .i64 0, .bool false, .string ⟨#[]⟩, .bool false, .string ⟨#[]⟩, .slice none 0 0] := Box.new w5 _ _
              have hS5 : (w5.alloc (.cells #[.int .i64 0, .int .i64 0, .bool false, .string ⟨#[]⟩, .bool false, .string ⟨#[]⟩, .slice none 0 0] 34)).drew.cell? ⟨o1, 0, none⟩ = some (.string x.k.g) ∧ (w5.alloc (.cells #[.int .i64 0, .int .i64 0, .bool false, .string ⟨#[]⟩, .bool false, .string ⟨#[]⟩, .slice none 0 0] 34)).drew.cell? ⟨o1, 1, none⟩ = some (.string x.k.t) ∧ (w5.alloc (.cells #[.int .i64 0, .int .i64 0, .bool false, .string ⟨#[]⟩, .bool false, .string ⟨#[]⟩, .slice none 0 0] 34)).drew.cell? ⟨o1, 2, none⟩ = some (.int .i64 x.k.i) ∧ (w5.alloc (.cells #[.int .i64 0, .int .i64 0, .bool false, .string ⟨#[]⟩, .bool false, .string ⟨#[]⟩, .slice none 0 0] 34)).drew.cell? ⟨b, off + k * 12 + 4, none⟩ = some (.int .i64 x.at_) := ⟨(hBz.cell (p := ⟨o1, 0, none⟩) ql).trans q0, (hBz.cell (p := ⟨o1, 1, none⟩) ql).trans q1, (hBz.cell (p := ⟨o1, 2, none⟩) ql).trans q2, (hBz.cell (p := ⟨b, off + k * 12 + 4, none⟩) hbl).trans z4⟩
              refine hK.out _ _ (hS5) (fun hHeld => ?_)
              clear hK K
              try simp only [Act.put, List.setIfInBounds_toArray, List.set_cons_zero, List.set_cons_succ]
              refine wpAnyH_ready (rs := [7]) (by kernel_rfl) (by simp) ?_
              refine consL rfl (by kernel_rfl) (fun K hK => ?_) AllReadyH.nil
              go_simp
              with_reducible refine (cE _).mono ?_
              rintro en w6 ⟨rfl, hb⟩
              have hBk : Below w5.heap.size w5 w6 := hBz.trans (hb.mono hBz.size)
              have hBx := hBz0.later hb
              have HK := Lib.hid (HJ.out.later hBk)
              clear hb cE q0 q1 q2 ql z1 z2 z3 z4 hbl
              obtain ⟨b', off', hA', hbl, _, z1, z2, z3, z4⟩ := oo_cells HL.out HK.out.below HX.out
              injection hA' with hA'
              injection hA' with e1 e2 _
              subst e1 e2
              obtain ⟨q0, q1, q2, ql, _, _, _⟩ := ky3 HK.out.kb
              have hS6 := And.intro q0 (And.intro q1 (And.intro q2 z4))
              refine hK.out _ _ (hS6) (fun hHeld => ?_)
              clear hK K
              try simp only [Act.put, List.setIfInBounds_toArray, List.set_cons_zero, List.set_cons_succ]
              refine takeW (i := 8) (v := ?v5027) rfl (by kernel_rfl) (by kernel_rfl) (by kernel_rfl) (fun _ _ _ h => h) (by kernel_rfl) hHeld ?hy5027 ?rest5027
              case hy5027 => (intro w hSw; (try dsimp only at hSw); go_simp; (try with_reducible rfl))
              try simp only [Act.put, List.setIfInBounds_toArray, List.set_cons_zero, List.set_cons_succ]
              refine takeW (i := 9) (v := ?v5028) rfl (by kernel_rfl) (by kernel_rfl) (by kernel_rfl) (fun _ _ _ h => h) (by kernel_rfl) hHeld ?hy5028 ?rest5028
              case hy5028 => (intro w hSw; (try dsimp only at hSw); go_simp; (try with_reducible rfl))
              try simp only [Act.put, List.setIfInBounds_toArray, List.set_cons_zero, List.set_cons_succ]
              refine takeW (i := 10) (v := ?v5029) rfl (by kernel_rfl) (by kernel_rfl) (by kernel_rfl) (fun _ _ _ h => h) (by kernel_rfl) hHeld ?hy5029 ?rest5029
              case hy5029 => (intro w hSw; (try dsimp only at hSw); go_simp; (try with_reducible rfl))
              try simp only [Act.put, List.setIfInBounds_toArray, List.set_cons_zero, List.set_cons_succ]
              refine wpAnyH_ready (rs := [12]) (by kernel_rfl) (by simp) ?_
              refine consL rfl (by kernel_rfl) (fun K hK => ?_) AllReadyH.nil
              obtain ⟨⟨r0, r1, r2, r3, r4, r5, r6⟩, ⟨f0, f1, f2, f3, f4, f5, f6⟩, rl⟩ := box7 hBx
              go_simp
              have hB7 : Below w5.heap.size w5 (set7 w6 w5.heap.size (.int .i64 0) (.int .i64 0) (.bool false) (.string ⟨#[]⟩) (.bool false) (.string ⟨#[]⟩) (.slice none 0 0)) := hBk.trans ((set7_off w6 w5.heap.size _ _ _ _ _ _ _).below hBk.size (fun j hj => by omega))
              have HM2 := Lib.hid (HJ.out.later hB7)
              have HR2 := Lib.hid (set7_box hBx (.int .i64 0) (.int .i64 0) (.bool false) (.string ⟨#[]⟩) (.bool false) (.string ⟨#[]⟩) (.slice none 0 0))
              clear q0 q1 q2 ql z1 z2 z3 z4 hbl
              obtain ⟨b', off', hA', hbl, _, z1, z2, z3, z4⟩ := oo_cells HL.out HM2.out.below HX.out
              injection hA' with hA'
              injection hA' with e1 e2 _
              subst e1 e2
              obtain ⟨q0, q1, q2, ql, _, _, _⟩ := ky3 HM2.out.kb
              refine hK.out _ _ (And.intro q0 (And.intro q1 (And.intro q2 z4))) (fun hHeld => ?_)
              clear hK K
              try simp only [Act.put, List.setIfInBounds_toArray, List.set_cons_zero, List.set_cons_succ]
              refine takeW (i := 13) (v := ?v5030) rfl (by kernel_rfl) (by kernel_rfl) (by kernel_rfl) (fun _ _ _ h => h) (by kernel_rfl) hHeld ?hy5030 ?rest5030
              case hy5030 => (intro w hSw; (try dsimp only at hSw); go_simp; (try with_reducible rfl))
              try simp only [Act.put, List.setIfInBounds_toArray, List.set_cons_zero, List.set_cons_succ]
              refine wpAnyH_done (by kernel_rfl) ?_ _
              clear hS5 hS6 hS4 hHeld r0 r1 r2 r3 r4 r5 r6 f0 f1 f2 f3 f4 f5 f6 rl q0 q1 q2 ql z1 z2 z3 z4 hbl HK HJ HJD hBz hBz0 hBx hBk hB7
              obtain ⟨w7, hw7⟩ : ∃ w7, (set7 w6 w5.heap.size (.int .i64 0) (.int .i64 0) (.bool false) (.string ⟨#[]⟩) (.bool false) (.string ⟨#[]⟩) (.slice none 0 0)) = w7 := ⟨_, rfl⟩
              have hw8 : (((((((w6.setCell ⟨w5.heap.size, 0, none⟩ (.int .i64 0)).setCell ⟨w5.heap.size, 1, none⟩ (.int .i64 0)).setCell ⟨w5.heap.size, 2, none⟩ (.bool false)).setCell ⟨w5.heap.size, 3, none⟩ (.string ⟨#[]⟩)).setCell ⟨w5.heap.size, 4, none⟩ (.bool false)).setCell ⟨w5.heap.size, 5, none⟩ (.string ⟨#[]⟩)).setCell ⟨w5.heap.size, 6, none⟩ (.slice none 0 0)) = w7 := hw7
              rw [hw7] at HM2 HR2
              rw [hw8]
              clear hw7 hw8
              generalize w5.heap.size = o2 at *
              obtain ⟨b', off', hA', hbl, _, z1, z2, z3, z4⟩ := oo_cells HL.out HM2.out.below HX.out
              injection hA' with hA'
              injection hA' with e1 e2 _
              subst e1 e2
              obtain ⟨q0, q1, q2, ql, _, _, _⟩ := ky3 HM2.out.kb
              have HM3 : Hid (LaI W p g q h F F o1 x.k w7) := Lib.hid (by have := HM2.out; rw [HCS.out] at this; exact this)
              clear HM2 HCS
              have hat := HAT.out
              rw [hat] at z4
              go_wp2_with fail
              exact ⟨⟨k + 1, by go_num, hkn, F, by have := HF.out; omega, ⟨HM3.out.ota, HM3.out.otb, HM3.out.gh, HM3.out.below⟩⟩, by simp [intOf]; omega⟩
        · cases hE : enOk x.k x.at_ k with
          | true =>
            have hC2 := commit_yes (F := F) hE hat (by have := HF.out; omega)
            have hCO := hC2.1
            have HG := Lib.hid hC2.2
            have cA : ∀ w, OT W q h 100 F w → Calls Try.prog 17 #[.pointer (some ⟨q, 0, none⟩), .agg #[.int .i64 0, .int .i64 k, .bool false, .string ⟨(enKey x.k).toArray⟩, .bool (decide (x.at_ = -1)), .string (if x.at_ = -1 then ⟨#[]⟩ else ⟨(putL x.at_).toArray⟩), .slice none 0 0]] w (fun e w' => e = .returned (.int .i64 0) ∧ Wr W q h 100 (coS 100 F x.k x.at_) w w') := fun w ho => by
              have hsz := (okRec_parts (enRec_ok hE)).2.1
              have h1 := apply_v ho (enRec x.k x.at_ k) none 0 (rin_nil w _ rfl (Nat.le_trans hsz.1 (by decide)) (Nat.le_trans hsz.2 (by decide)))
              rw [(apply_yes (F := F) hE hat).1, (apply_yes (F := F) hE hat).2, hCO] at h1
              exact h1
            clear hC2
            have hsz := (okRec_parts (enRec_ok hE)).2.1
            have hrec : recC (enRec x.k x.at_ k) none 0 = #[.int .i64 0, .int .i64 k, .bool false, .string ⟨(enKey x.k).toArray⟩, .bool (decide (x.at_ = -1)), .string (if x.at_ = -1 then ⟨#[]⟩ else ⟨(putL x.at_).toArray⟩), .slice none 0 0] := rfl
            have cE := fun w => entry_yes hE w
            have cE : ∀ w, Calls Try.prog 18 #[.agg #[.string x.k.g, .string x.k.t, .int .i64 x.k.i], .int .i64 x.at_, .int .i64 k] w (Good w (.tuple #[.agg #[.int .i64 0, .int .i64 k, .bool false, .string ⟨(enKey x.k).toArray⟩, .bool (decide (x.at_ = -1)), .string (if x.at_ = -1 then ⟨#[]⟩ else ⟨(putL x.at_).toArray⟩), .slice none 0 0], .int .i64 0])) := cE
            generalize (⟨(enKey x.k).toArray⟩ : ByteArray) = KT at *
            generalize decide (x.at_ = -1) = GB at *
            generalize (if x.at_ = -1 then (⟨#[]⟩ : ByteArray) else ⟨(putL x.at_).toArray⟩) = VT at *
            clear hrec hsz
            have HAT := Lib.hid hat
            clear hat hE
            go_wp2_with fail
            have hS0 : wr.drew.cell? ⟨b, off + k * 12 + 1, none⟩ = some (.string x.k.g) ∧ wr.drew.cell? ⟨b, off + k * 12 + 2, none⟩ = some (.string x.k.t) ∧ wr.drew.cell? ⟨b, off + k * 12 + 3, none⟩ = some (.int .i64 x.k.i) ∧ wr.drew.cell? ⟨b, off + k * 12 + 4, none⟩ = some (.int .i64 x.at_) := ⟨z1, z2, z3, z4⟩
            have hD := (Below.refl wr.heap.size wr).drew
            refine wp_region_held_drew (S := (fun w => w.cell? ⟨b, off + k * 12 + 1, none⟩ = some (.string x.k.g) ∧ w.cell? ⟨b, off + k * 12 + 2, none⟩ = some (.string x.k.t) ∧ w.cell? ⟨b, off + k * 12 + 3, none⟩ = some (.int .i64 x.k.i) ∧ w.cell? ⟨b, off + k * 12 + 4, none⟩ = some (.int .i64 x.at_))) (by kernel_rfl) hS0 (fun hHeld => ?_)
            refine takeW (i := 0) (v := ?v39) rfl (by kernel_rfl) (by kernel_rfl) (by kernel_rfl) (fun _ _ _ h => h) (by kernel_rfl) hHeld ?hy39 ?rest39
            case hy39 => (intro w hSw; (try dsimp only at hSw); go_simp; (try with_reducible rfl))
            try simp only [Act.put, List.setIfInBounds_toArray, List.set_cons_zero, List.set_cons_succ]
            refine takeW (i := 1) (v := ?v40) rfl (by kernel_rfl) (by kernel_rfl) (by kernel_rfl) (fun _ _ _ h => h) (by kernel_rfl) hHeld ?hy40 ?rest40
            case hy40 => (intro w hSw; (try dsimp only at hSw); go_simp; (try with_reducible rfl))
            try simp only [Act.put, List.setIfInBounds_toArray, List.set_cons_zero, List.set_cons_succ]
            refine takeW (i := 2) (v := ?v41) rfl (by kernel_rfl) (by kernel_rfl) (by kernel_rfl) (fun _ _ _ h => h) (by kernel_rfl) hHeld ?hy41 ?rest41
            case hy41 => (intro w hSw; (try dsimp only at hSw); go_simp; (try with_reducible rfl))
            try simp only [Act.put, List.setIfInBounds_toArray, List.set_cons_zero, List.set_cons_succ]
            refine takeW (i := 3) (v := ?v42) rfl (by kernel_rfl) (by kernel_rfl) (by kernel_rfl) (fun _ _ _ h => h) (by kernel_rfl) hHeld ?hy42 ?rest42
            case hy42 => (intro w hSw; (try dsimp only at hSw); go_simp; (try with_reducible rfl))
            try simp only [Act.put, List.setIfInBounds_toArray, List.set_cons_zero, List.set_cons_succ]
            refine takeW (i := 4) (v := ?v43) rfl (by kernel_rfl) (by kernel_rfl) (by kernel_rfl) (fun _ _ _ h => h) (by kernel_rfl) hHeld ?hy43 ?rest43
            case hy43 => (intro w hSw; (try dsimp only at hSw); go_simp; (try with_reducible rfl))
            try simp only [Act.put, List.setIfInBounds_toArray, List.set_cons_zero, List.set_cons_succ]
            refine takeW (i := 5) (v := ?v44) rfl (by kernel_rfl) (by kernel_rfl) (by kernel_rfl) (fun _ _ _ h => h) (by kernel_rfl) hHeld ?hy44 ?rest44
            case hy44 => (intro w hSw; (try dsimp only at hSw); go_simp; (try with_reducible rfl))
            try simp only [Act.put, List.setIfInBounds_toArray, List.set_cons_zero, List.set_cons_succ]
            refine takeW (i := 6) (v := ?v45) rfl (by kernel_rfl) (by kernel_rfl) (by kernel_rfl) (fun _ _ _ h => h) (by kernel_rfl) hHeld ?hy45 ?rest45
            case hy45 => (intro w hSw; (try dsimp only at hSw); go_simp; (try with_reducible rfl))
            try simp only [Act.put, List.setIfInBounds_toArray, List.set_cons_zero, List.set_cons_succ]
            refine takeW (i := 7) (v := ?v46) rfl (by kernel_rfl) (by kernel_rfl) (by kernel_rfl) (fun _ _ _ h => h) (by kernel_rfl) hHeld ?hy46 ?rest46
            case hy46 => (intro w hSw; (try dsimp only at hSw); go_simp; (try with_reducible rfl))
            try simp only [Act.put, List.setIfInBounds_toArray, List.set_cons_zero, List.set_cons_succ]
            refine takeW (i := 8) (v := ?v47) rfl (by kernel_rfl) (by kernel_rfl) (by kernel_rfl) (fun _ _ _ h => h) (by kernel_rfl) hHeld ?hy47 ?rest47
            case hy47 => (intro w hSw; (try dsimp only at hSw); go_simp; (try with_reducible rfl))
            try simp only [Act.put, List.setIfInBounds_toArray, List.set_cons_zero, List.set_cons_succ]
            refine takeW (i := 9) (v := ?v48) rfl (by kernel_rfl) (by kernel_rfl) (by kernel_rfl) (fun _ _ _ h => h) (by kernel_rfl) hHeld ?hy48 ?rest48
            case hy48 => (intro w hSw; (try dsimp only at hSw); go_simp; (try with_reducible rfl))
            try simp only [Act.put, List.setIfInBounds_toArray, List.set_cons_zero, List.set_cons_succ]
            refine takeW (i := 10) (v := ?v49) rfl (by kernel_rfl) (by kernel_rfl) (by kernel_rfl) (fun _ _ _ h => h) (by kernel_rfl) hHeld ?hy49 ?rest49
            case hy49 => (intro w hSw; (try dsimp only at hSw); go_simp; (try with_reducible rfl))
            try simp only [Act.put, List.setIfInBounds_toArray, List.set_cons_zero, List.set_cons_succ]
            refine wpAnyH_ready (rs := [11]) (by kernel_rfl) (by simp) ?_
            refine consL rfl (by kernel_rfl) (fun K hK => ?_) AllReadyH.nil
            go_simp
            have hBA := hD.trans ((Below.refl wr.heap.size wr.drew).alloc (Nat.le_refl _) (.cells #[.string ⟨#[]⟩, .string ⟨#[]⟩, .int .i64 0] 45))
            have hbx : Box (wr.alloc (.cells #[.string ⟨#[]⟩, .string ⟨#[]⟩, .int .i64 0] 45)).drew wr.heap.size 45 #[.string ⟨#[]⟩, .string ⟨#[]⟩, .int .i64 0] := Box.new wr _ _
            have hS1 : (wr.alloc (.cells #[.string ⟨#[]⟩, .string ⟨#[]⟩, .int .i64 0] 45)).drew.cell? ⟨b, off + k * 12 + 1, none⟩ = some (.string x.k.g) ∧ (wr.alloc (.cells #[.string ⟨#[]⟩, .string ⟨#[]⟩, .int .i64 0] 45)).drew.cell? ⟨b, off + k * 12 + 2, none⟩ = some (.string x.k.t) ∧ (wr.alloc (.cells #[.string ⟨#[]⟩, .string ⟨#[]⟩, .int .i64 0] 45)).drew.cell? ⟨b, off + k * 12 + 3, none⟩ = some (.int .i64 x.k.i) ∧ (wr.alloc (.cells #[.string ⟨#[]⟩, .string ⟨#[]⟩, .int .i64 0] 45)).drew.cell? ⟨b, off + k * 12 + 4, none⟩ = some (.int .i64 x.at_) := ⟨(hBA.cell (p := ⟨b, off + k * 12 + 1, none⟩) hbl).trans z1, (hBA.cell (p := ⟨b, off + k * 12 + 2, none⟩) hbl).trans z2, (hBA.cell (p := ⟨b, off + k * 12 + 3, none⟩) hbl).trans z3, (hBA.cell (p := ⟨b, off + k * 12 + 4, none⟩) hbl).trans z4⟩
            refine hK.out _ _ (hS1) (fun hHeld => ?_)
            clear hK K
            try simp only [Act.put, List.setIfInBounds_toArray, List.set_cons_zero, List.set_cons_succ]
            refine wpAnyH_ready (rs := [12]) (by kernel_rfl) (by simp) ?_
            refine consL rfl (by kernel_rfl) (fun K hK => ?_) AllReadyH.nil
            go_simp
            have hBA := hD.trans ((Below.refl wr.heap.size wr.drew).alloc (Nat.le_refl _) (.cells #[.string x.k.g, .string x.k.t, .int .i64 x.k.i] 45))
            have hS2 : (wr.alloc (.cells #[.string x.k.g, .string x.k.t, .int .i64 x.k.i] 45)).drew.cell? ⟨b, off + k * 12 + 1, none⟩ = some (.string x.k.g) ∧ (wr.alloc (.cells #[.string x.k.g, .string x.k.t, .int .i64 x.k.i] 45)).drew.cell? ⟨b, off + k * 12 + 2, none⟩ = some (.string x.k.t) ∧ (wr.alloc (.cells #[.string x.k.g, .string x.k.t, .int .i64 x.k.i] 45)).drew.cell? ⟨b, off + k * 12 + 3, none⟩ = some (.int .i64 x.k.i) ∧ (wr.alloc (.cells #[.string x.k.g, .string x.k.t, .int .i64 x.k.i] 45)).drew.cell? ⟨b, off + k * 12 + 4, none⟩ = some (.int .i64 x.at_) := ⟨(hBA.cell (p := ⟨b, off + k * 12 + 1, none⟩) hbl).trans z1, (hBA.cell (p := ⟨b, off + k * 12 + 2, none⟩) hbl).trans z2, (hBA.cell (p := ⟨b, off + k * 12 + 3, none⟩) hbl).trans z3, (hBA.cell (p := ⟨b, off + k * 12 + 4, none⟩) hbl).trans z4⟩
            refine hK.out _ _ (hS2) (fun hHeld => ?_)
            clear hK K
            try simp only [Act.put, List.setIfInBounds_toArray, List.set_cons_zero, List.set_cons_succ]
            refine wpAnyH_done (by kernel_rfl) ?_ _
            have hX1 : Box (wr.alloc (.cells #[.string x.k.g, .string x.k.t, .int .i64 x.k.i] 45)).drew wr.heap.size 45 #[.string x.k.g, .string x.k.t, .int .i64 x.k.i] := Box.new wr _ _
            have hBK := hD.trans ((Below.refl wr.heap.size wr.drew).alloc (Nat.le_refl _) (.cells #[.string x.k.g, .string x.k.t, .int .i64 x.k.i] 45))
            have HI : Hid (LaI W p g q h F F wr.heap.size x.k (wr.alloc (.cells #[.string x.k.g, .string x.k.t, .int .i64 x.k.i] 45)).drew) := Lib.hid ⟨HO.out.ota.later hBK, HO.out.otb.later hBK, HO.out.gh, hX1, HO.out.below.trans (hBK.mono HO.out.below.size)⟩
            clear hBK hX1 hD z1 z2 z3 z4 hbl hS0 hS1 hS2 hbx hHeld HO
            generalize (wr.alloc (.cells #[.string x.k.g, .string x.k.t, .int .i64 x.k.i] 45)).drew = w4 at *
            generalize wr.heap.size = o1 at *
            obtain ⟨b', off', hA', hbl, _, z1, z2, z3, z4⟩ := oo_cells HL.out HI.out.below HX.out
            injection hA' with hA'
            injection hA' with e1 e2 _
            subst e1 e2
            obtain ⟨q0, q1, q2, ql, _, _, _⟩ := ky3 HI.out.kb
            go_wp2_with fail
            have hS0 : w4.drew.cell? ⟨o1, 0, none⟩ = some (.string x.k.g) ∧ w4.drew.cell? ⟨o1, 1, none⟩ = some (.string x.k.t) ∧ w4.drew.cell? ⟨o1, 2, none⟩ = some (.int .i64 x.k.i) ∧ w4.drew.cell? ⟨b, off + k * 12 + 4, none⟩ = some (.int .i64 x.at_) := ⟨q0, q1, q2, z4⟩
            have HID := Lib.hid (HI.out.later (Below.refl _ _).drew)
            have cm1 := commit_v HID.out.ota x.k x.at_
            rw [hCO] at cm1
            refine wp_region_held_drew (S := (fun w => w.cell? ⟨o1, 0, none⟩ = some (.string x.k.g) ∧ w.cell? ⟨o1, 1, none⟩ = some (.string x.k.t) ∧ w.cell? ⟨o1, 2, none⟩ = some (.int .i64 x.k.i) ∧ w.cell? ⟨b, off + k * 12 + 4, none⟩ = some (.int .i64 x.at_))) (by kernel_rfl) hS0 (fun hHeld => ?_)
            refine takeW (i := 0) (v := ?v50) rfl (by kernel_rfl) (by kernel_rfl) (by kernel_rfl) (fun _ _ _ h => h) (by kernel_rfl) hHeld ?hy50 ?rest50
            case hy50 => (intro w hSw; (try dsimp only at hSw); go_simp; (try with_reducible rfl))
            try simp only [Act.put, List.setIfInBounds_toArray, List.set_cons_zero, List.set_cons_succ]
            refine takeW (i := 1) (v := ?v51) rfl (by kernel_rfl) (by kernel_rfl) (by kernel_rfl) (fun _ _ _ h => h) (by kernel_rfl) hHeld ?hy51 ?rest51
            case hy51 => (intro w hSw; (try dsimp only at hSw); go_simp; (try with_reducible rfl))
            try simp only [Act.put, List.setIfInBounds_toArray, List.set_cons_zero, List.set_cons_succ]
            refine takeW (i := 2) (v := ?v52) rfl (by kernel_rfl) (by kernel_rfl) (by kernel_rfl) (fun _ _ _ h => h) (by kernel_rfl) hHeld ?hy52 ?rest52
            case hy52 => (intro w hSw; (try dsimp only at hSw); go_simp; (try with_reducible rfl))
            try simp only [Act.put, List.setIfInBounds_toArray, List.set_cons_zero, List.set_cons_succ]
            refine takeW (i := 3) (v := ?v53) rfl (by kernel_rfl) (by kernel_rfl) (by kernel_rfl) (fun _ _ _ h => h) (by kernel_rfl) hHeld ?hy53 ?rest53
            case hy53 => (intro w hSw; (try dsimp only at hSw); go_simp; (try with_reducible rfl))
            try simp only [Act.put, List.setIfInBounds_toArray, List.set_cons_zero, List.set_cons_succ]
            refine takeW (i := 4) (v := ?v54) rfl (by kernel_rfl) (by kernel_rfl) (by kernel_rfl) (fun _ _ _ h => h) (by kernel_rfl) hHeld ?hy54 ?rest54
            case hy54 => (intro w hSw; (try dsimp only at hSw); go_simp; (try with_reducible rfl))
            try simp only [Act.put, List.setIfInBounds_toArray, List.set_cons_zero, List.set_cons_succ]
            refine takeW (i := 5) (v := ?v55) rfl (by kernel_rfl) (by kernel_rfl) (by kernel_rfl) (fun _ _ _ h => h) (by kernel_rfl) hHeld ?hy55 ?rest55
            case hy55 => (intro w hSw; (try dsimp only at hSw); go_simp; (try with_reducible rfl))
            try simp only [Act.put, List.setIfInBounds_toArray, List.set_cons_zero, List.set_cons_succ]
            refine takeW (i := 6) (v := ?v56) rfl (by kernel_rfl) (by kernel_rfl) (by kernel_rfl) (fun _ _ _ h => h) (by kernel_rfl) hHeld ?hy56 ?rest56
            case hy56 => (intro w hSw; (try dsimp only at hSw); go_simp; (try with_reducible rfl))
            try simp only [Act.put, List.setIfInBounds_toArray, List.set_cons_zero, List.set_cons_succ]
            refine wpAnyH_ready (rs := [7]) (by kernel_rfl) (by simp) ?_
            refine consL rfl (by kernel_rfl) (fun K hK => ?_) AllReadyH.nil
            go_simp
            with_reducible refine cm1.mono ?_
            rintro en w5 ⟨rfl, hw⟩
            have HJ := Lib.hid (HID.out.wra hw)
            clear hw cm1 q0 q1 q2 ql z1 z2 z3 z4 hbl HI HID
            obtain ⟨b', off', hA', hbl, _, z1, z2, z3, z4⟩ := oo_cells HL.out HJ.out.below HX.out
            injection hA' with hA'
            injection hA' with e1 e2 _
            subst e1 e2
            obtain ⟨q0, q1, q2, ql, _, _, _⟩ := ky3 HJ.out.kb
            have hS3 := And.intro q0 (And.intro q1 (And.intro q2 z4))
            refine hK.out _ _ (hS3) (fun hHeld => ?_)
            clear hK K
            try simp only [Act.put, List.setIfInBounds_toArray, List.set_cons_zero, List.set_cons_succ]
            refine takeW (i := 8) (v := ?v57) rfl (by kernel_rfl) (by kernel_rfl) (by kernel_rfl) (fun _ _ _ h => h) (by kernel_rfl) hHeld ?hy57 ?rest57
            case hy57 => (intro w hSw; (try dsimp only at hSw); go_simp; (try with_reducible rfl))
            try simp only [Act.put, List.setIfInBounds_toArray, List.set_cons_zero, List.set_cons_succ]
            refine wpAnyH_done (by kernel_rfl) ?_ _
            clear hHeld hS0
            go_wp2_with fail
            have hS4 : w5.drew.cell? ⟨o1, 0, none⟩ = some (.string x.k.g) ∧ w5.drew.cell? ⟨o1, 1, none⟩ = some (.string x.k.t) ∧ w5.drew.cell? ⟨o1, 2, none⟩ = some (.int .i64 x.k.i) ∧ w5.drew.cell? ⟨b, off + k * 12 + 4, none⟩ = some (.int .i64 x.at_) := ⟨q0, q1, q2, z4⟩
            have HJD := Lib.hid (HJ.out.later (Below.refl _ _).drew)
            refine wp_region_held_drew (S := (fun w => w.cell? ⟨o1, 0, none⟩ = some (.string x.k.g) ∧ w.cell? ⟨o1, 1, none⟩ = some (.string x.k.t) ∧ w.cell? ⟨o1, 2, none⟩ = some (.int .i64 x.k.i) ∧ w.cell? ⟨b, off + k * 12 + 4, none⟩ = some (.int .i64 x.at_))) (by kernel_rfl) hS4 (fun hHeld => ?_)
            refine takeW (i := 0) (v := ?v5031) rfl (by kernel_rfl) (by kernel_rfl) (by kernel_rfl) (fun _ _ _ h => h) (by kernel_rfl) hHeld ?hy5031 ?rest5031
            case hy5031 => (intro w hSw; (try dsimp only at hSw); go_simp; (try with_reducible rfl))
            try simp only [Act.put, List.setIfInBounds_toArray, List.set_cons_zero, List.set_cons_succ]
            refine takeW (i := 1) (v := ?v5032) rfl (by kernel_rfl) (by kernel_rfl) (by kernel_rfl) (fun _ _ _ h => h) (by kernel_rfl) hHeld ?hy5032 ?rest5032
            case hy5032 => (intro w hSw; (try dsimp only at hSw); go_simp; (try with_reducible rfl))
            try simp only [Act.put, List.setIfInBounds_toArray, List.set_cons_zero, List.set_cons_succ]
            refine takeW (i := 2) (v := ?v5033) rfl (by kernel_rfl) (by kernel_rfl) (by kernel_rfl) (fun _ _ _ h => h) (by kernel_rfl) hHeld ?hy5033 ?rest5033
            case hy5033 => (intro w hSw; (try dsimp only at hSw); go_simp; (try with_reducible rfl))
            try simp only [Act.put, List.setIfInBounds_toArray, List.set_cons_zero, List.set_cons_succ]
            refine takeW (i := 3) (v := ?v5034) rfl (by kernel_rfl) (by kernel_rfl) (by kernel_rfl) (fun _ _ _ h => h) (by kernel_rfl) hHeld ?hy5034 ?rest5034
            case hy5034 => (intro w hSw; (try dsimp only at hSw); go_simp; (try with_reducible rfl))
            try simp only [Act.put, List.setIfInBounds_toArray, List.set_cons_zero, List.set_cons_succ]
            refine takeW (i := 4) (v := ?v5035) rfl (by kernel_rfl) (by kernel_rfl) (by kernel_rfl) (fun _ _ _ h => h) (by kernel_rfl) hHeld ?hy5035 ?rest5035
            case hy5035 => (intro w hSw; (try dsimp only at hSw); go_simp; (try with_reducible rfl))
            try simp only [Act.put, List.setIfInBounds_toArray, List.set_cons_zero, List.set_cons_succ]
            refine takeW (i := 5) (v := ?v5036) rfl (by kernel_rfl) (by kernel_rfl) (by kernel_rfl) (fun _ _ _ h => h) (by kernel_rfl) hHeld ?hy5036 ?rest5036
            case hy5036 => (intro w hSw; (try dsimp only at hSw); go_simp; (try with_reducible rfl))
            try simp only [Act.put, List.setIfInBounds_toArray, List.set_cons_zero, List.set_cons_succ]
            refine takeW (i := 6) (v := ?v5037) rfl (by kernel_rfl) (by kernel_rfl) (by kernel_rfl) (fun _ _ _ h => h) (by kernel_rfl) hHeld ?hy5037 ?rest5037
            case hy5037 => (intro w hSw; (try dsimp only at hSw); go_simp; (try with_reducible rfl))
            try simp only [Act.put, List.setIfInBounds_toArray, List.set_cons_zero, List.set_cons_succ]
            refine wpAnyH_ready (rs := [7, 11]) (by kernel_rfl) (by simp) ?_
            refine consL rfl (by kernel_rfl) (fun K hK => ?_) (consL rfl (by kernel_rfl) (fun K hK => ?_) AllReadyH.nil)
            · go_simp
              with_reducible refine (cE _).mono ?_
              rintro en w6 ⟨rfl, hb⟩
              have HK := Lib.hid (HJD.out.later hb)
              clear hb cE q0 q1 q2 ql z1 z2 z3 z4 hbl HJ HJD
              obtain ⟨b', off', hA', hbl, _, z1, z2, z3, z4⟩ := oo_cells HL.out HK.out.below HX.out
              injection hA' with hA'
              injection hA' with e1 e2 _
              subst e1 e2
              obtain ⟨q0, q1, q2, ql, _, _, _⟩ := ky3 HK.out.kb
              have hS5 := And.intro q0 (And.intro q1 (And.intro q2 z4))
              refine hK.out _ _ (hS5) (fun hHeld => ?_)
              clear hK K
              try simp only [Act.put, List.setIfInBounds_toArray, List.set_cons_zero, List.set_cons_succ]
              refine takeW (i := 8) (v := ?v5038) rfl (by kernel_rfl) (by kernel_rfl) (by kernel_rfl) (fun _ _ _ h => h) (by kernel_rfl) hHeld ?hy5038 ?rest5038
              case hy5038 => (intro w hSw; (try dsimp only at hSw); go_simp; (try with_reducible rfl))
              try simp only [Act.put, List.setIfInBounds_toArray, List.set_cons_zero, List.set_cons_succ]
              refine takeW (i := 9) (v := ?v5039) rfl (by kernel_rfl) (by kernel_rfl) (by kernel_rfl) (fun _ _ _ h => h) (by kernel_rfl) hHeld ?hy5039 ?rest5039
              case hy5039 => (intro w hSw; (try dsimp only at hSw); go_simp; (try with_reducible rfl))
              try simp only [Act.put, List.setIfInBounds_toArray, List.set_cons_zero, List.set_cons_succ]
              refine takeW (i := 10) (v := ?v5040) rfl (by kernel_rfl) (by kernel_rfl) (by kernel_rfl) (fun _ _ _ h => h) (by kernel_rfl) hHeld ?hy5040 ?rest5040
              case hy5040 => (intro w hSw; (try dsimp only at hSw); go_simp; (try with_reducible rfl))
              try simp only [Act.put, List.setIfInBounds_toArray, List.set_cons_zero, List.set_cons_succ]
              refine wpAnyH_ready (rs := [11]) (by kernel_rfl) (by simp) ?_
              refine consL rfl (by kernel_rfl) (fun K hK => ?_) AllReadyH.nil
              go_simp
              have hBA := (Below.refl w6.heap.size w6).alloc (Nat.le_refl _) (.cells #[.int .i64 0, .int .i64 0, .bool false, .string ⟨#[]⟩, .bool false, .string ⟨#[]⟩, .slice none 0 0] 34)
              obtain ⟨⟨r0, r1, r2, r3, r4, r5, r6⟩, ⟨f0, f1, f2, f3, f4, f5, f6⟩, rl⟩ := box7 (Box.new w6 34 #[.int .i64 0, .int .i64 0, .bool false, .string ⟨#[]⟩, .bool false, .string ⟨#[]⟩, .slice none 0 0])
              have hS6 : (w6.alloc (.cells #[.int .i64 0, .int .i64 0, .bool false, .string ⟨#[]⟩, .bool false, .string ⟨#[]⟩, .slice none 0 0] 34)).cell? ⟨o1, 0, none⟩ = some (.string x.k.g) ∧ (w6.alloc (.cells #[.int .i64 0, .int .i64 0, .bool false, .string ⟨#[]⟩, .bool false, .string ⟨#[]⟩, .slice none 0 0] 34)).cell? ⟨o1, 1, none⟩ = some (.string x.k.t) ∧ (w6.alloc (.cells #[.int .i64 0, .int .i64 0, .bool false, .string ⟨#[]⟩, .bool false, .string ⟨#[]⟩, .slice none 0 0] 34)).cell? ⟨o1, 2, none⟩ = some (.int .i64 x.k.i) ∧ (w6.alloc (.cells #[.int .i64 0, .int .i64 0, .bool false, .string ⟨#[]⟩, .bool false, .string ⟨#[]⟩, .slice none 0 0] 34)).cell? ⟨b, off + k * 12 + 4, none⟩ = some (.int .i64 x.at_) := ⟨(hBA.cell (p := ⟨o1, 0, none⟩) ql).trans q0, (hBA.cell (p := ⟨o1, 1, none⟩) ql).trans q1, (hBA.cell (p := ⟨o1, 2, none⟩) ql).trans q2, (hBA.cell (p := ⟨b, off + k * 12 + 4, none⟩) hbl).trans z4⟩
              refine hK.out _ _ (hS6) (fun hHeld => ?_)
              clear hK K
              try simp only [Act.put, List.setIfInBounds_toArray, List.set_cons_zero, List.set_cons_succ]
              refine wpAnyH_ready (rs := [12]) (by kernel_rfl) (by simp) ?_
              refine consL rfl (by kernel_rfl) (fun K hK => ?_) AllReadyH.nil
              go_simp
              have hBA := (Below.refl w6.heap.size w6).alloc (Nat.le_refl _) (.cells #[.int .i64 0, .int .i64 k, .bool false, .string KT, .bool GB, .string VT, .slice none 0 0] 34)
              have hS7 : (w6.alloc (.cells #[.int .i64 0, .int .i64 k, .bool false, .string KT, .bool GB, .string VT, .slice none 0 0] 34)).cell? ⟨o1, 0, none⟩ = some (.string x.k.g) ∧ (w6.alloc (.cells #[.int .i64 0, .int .i64 k, .bool false, .string KT, .bool GB, .string VT, .slice none 0 0] 34)).cell? ⟨o1, 1, none⟩ = some (.string x.k.t) ∧ (w6.alloc (.cells #[.int .i64 0, .int .i64 k, .bool false, .string KT, .bool GB, .string VT, .slice none 0 0] 34)).cell? ⟨o1, 2, none⟩ = some (.int .i64 x.k.i) ∧ (w6.alloc (.cells #[.int .i64 0, .int .i64 k, .bool false, .string KT, .bool GB, .string VT, .slice none 0 0] 34)).cell? ⟨b, off + k * 12 + 4, none⟩ = some (.int .i64 x.at_) := ⟨(hBA.cell (p := ⟨o1, 0, none⟩) ql).trans q0, (hBA.cell (p := ⟨o1, 1, none⟩) ql).trans q1, (hBA.cell (p := ⟨o1, 2, none⟩) ql).trans q2, (hBA.cell (p := ⟨b, off + k * 12 + 4, none⟩) hbl).trans z4⟩
              refine hK.out _ _ (hS7) (fun hHeld => ?_)
              clear hK K
              try simp only [Act.put, List.setIfInBounds_toArray, List.set_cons_zero, List.set_cons_succ]
              refine takeW (i := 13) (v := ?v5041) rfl (by kernel_rfl) (by kernel_rfl) (by kernel_rfl) (fun _ _ _ h => h) (by kernel_rfl) hHeld ?hy5041 ?rest5041
              case hy5041 => (intro w hSw; (try dsimp only at hSw); go_simp; (try with_reducible rfl))
              try simp only [Act.put, List.setIfInBounds_toArray, List.set_cons_zero, List.set_cons_succ]
              refine wpAnyH_done (by kernel_rfl) ?_ _
              have hBR := (Below.refl w6.heap.size w6).alloc (Nat.le_refl _) (.cells #[.int .i64 0, .int .i64 k, .bool false, .string KT, .bool GB, .string VT, .slice none 0 0] 34)
              have HM2 := Lib.hid (HK.out.later hBR)
              have HR2 := Lib.hid (Box.new w6 34 #[.int .i64 0, .int .i64 k, .bool false, .string KT, .bool GB, .string VT, .slice none 0 0])
              clear hBR hBA hS5 hS6 hS7 hS4 hHeld r0 r1 r2 r3 r4 r5 r6 f0 f1 f2 f3 f4 f5 f6 rl q0 q1 q2 ql z1 z2 z3 z4 hbl HK
              generalize (w6.alloc (.cells #[.int .i64 0, .int .i64 k, .bool false, .string KT, .bool GB, .string VT, .slice none 0 0] 34)) = w7 at *
              generalize w6.heap.size = o2 at *
              obtain ⟨b', off', hA', hbl, _, z1, z2, z3, z4⟩ := oo_cells HL.out HM2.out.below HX.out
              injection hA' with hA'
              injection hA' with e1 e2 _
              subst e1 e2
              obtain ⟨q0, q1, q2, ql, _, _, _⟩ := ky3 HM2.out.kb
              have hne : (x.at_ == -1) = false := by have := HAT.out; simp [this]
              obtain ⟨⟨r0, r1, r2, r3, r4, r5, r6⟩, _, rl⟩ := box7 HR2.out
              have cA1 := cA _ HM2.out.otb
              clear cA
              go_wp2_with fail
              with_reducible refine cA1.mono ?_
              rintro en w8 ⟨rfl, hw⟩
              have HM3 := Lib.hid (HM2.out.wrb hw)
              clear hw cA1 r0 r1 r2 r3 r4 r5 r6 rl q0 q1 q2 ql z1 z2 z3 z4 hbl HM2
              obtain ⟨b', off', hA', hbl, _, z1, z2, z3, z4⟩ := oo_cells HL.out HM3.out.below HX.out
              injection hA' with hA'
              injection hA' with e1 e2 _
              subst e1 e2
              obtain ⟨q0, q1, q2, ql, _, _, _⟩ := ky3 HM3.out.kb
              have cG1 := get_v HM3.out.otb x.k HKY.out
              rw [HG.out] at cG1
              go_wp2_with fail
              with_reducible refine cG1.mono ?_
              rintro en w9 ⟨rfl, hb⟩
              have HM4 := Lib.hid (HM3.out.later hb)
              clear hb cG1 HM3 q0 q1 q2 ql z1 z2 z3 z4 hbl
              obtain ⟨b', off', hA', hbl, _, z1, z2, z3, z4⟩ := oo_cells HL.out HM4.out.below HX.out
              injection hA' with hA'
              injection hA' with e1 e2 _
              subst e1 e2
              obtain ⟨q0, q1, q2, ql, _, _, _⟩ := ky3 HM4.out.kb
              go_wp2_with fail
              exact ⟨⟨k + 1, by go_num, hkn, coS 100 F x.k x.at_, by have := HF.out; have := coS_len (room := 100) (F := F) (k := x.k) (a := x.at_); omega, ⟨HM4.out.ota, HM4.out.otb, HM4.out.gh, HM4.out.below⟩⟩, by simp [intOf]; omega⟩
            · go_simp
              have hBz : Below w5.heap.size w5 (w5.alloc (.cells #[.int .i64 0, .int .i64 0, .bool false, .string ⟨#[]⟩, .bool false, .string ⟨#[]⟩, .slice none 0 0] 34)).drew := ((Below.refl w5.heap.size w5).alloc (Nat.le_refl _) _).trans ((Below.refl _ _).drew)
              have hBz0 : Box (w5.alloc (.cells #[.int .i64 0, .int .i64 0, .bool false, .string ⟨#[]⟩, .bool false, .string ⟨#[]⟩, .slice none 0 0] 34)).drew w5.heap.size 34 #[.int .i64 0, .int .i64 0, .bool false, .string ⟨#[]⟩, .bool false, .string ⟨#[]⟩, .slice none 0 0] := Box.new w5 _ _
              have hS5 : (w5.alloc (.cells #[.int .i64 0, .int .i64 0, .bool false, .string ⟨#[]⟩, .bool false, .string ⟨#[]⟩, .slice none 0 0] 34)).drew.cell? ⟨o1, 0, none⟩ = some (.string x.k.g) ∧ (w5.alloc (.cells #[.int .i64 0, .int .i64 0, .bool false, .string ⟨#[]⟩, .bool false, .string ⟨#[]⟩, .slice none 0 0] 34)).drew.cell? ⟨o1, 1, none⟩ = some (.string x.k.t) ∧ (w5.alloc (.cells #[.int .i64 0, .int .i64 0, .bool false, .string ⟨#[]⟩, .bool false, .string ⟨#[]⟩, .slice none 0 0] 34)).drew.cell? ⟨o1, 2, none⟩ = some (.int .i64 x.k.i) ∧ (w5.alloc (.cells #[.int .i64 0, .int .i64 0, .bool false, .string ⟨#[]⟩, .bool false, .string ⟨#[]⟩, .slice none 0 0] 34)).drew.cell? ⟨b, off + k * 12 + 4, none⟩ = some (.int .i64 x.at_) := ⟨(hBz.cell (p := ⟨o1, 0, none⟩) ql).trans q0, (hBz.cell (p := ⟨o1, 1, none⟩) ql).trans q1, (hBz.cell (p := ⟨o1, 2, none⟩) ql).trans q2, (hBz.cell (p := ⟨b, off + k * 12 + 4, none⟩) hbl).trans z4⟩
              refine hK.out _ _ (hS5) (fun hHeld => ?_)
              clear hK K
              try simp only [Act.put, List.setIfInBounds_toArray, List.set_cons_zero, List.set_cons_succ]
              refine wpAnyH_ready (rs := [7]) (by kernel_rfl) (by simp) ?_
              refine consL rfl (by kernel_rfl) (fun K hK => ?_) AllReadyH.nil
              go_simp
              with_reducible refine (cE _).mono ?_
              rintro en w6 ⟨rfl, hb⟩
              have hBk : Below w5.heap.size w5 w6 := hBz.trans (hb.mono hBz.size)
              have hBx := hBz0.later hb
              have HK := Lib.hid (HJ.out.later hBk)
              clear hb cE q0 q1 q2 ql z1 z2 z3 z4 hbl
              obtain ⟨b', off', hA', hbl, _, z1, z2, z3, z4⟩ := oo_cells HL.out HK.out.below HX.out
              injection hA' with hA'
              injection hA' with e1 e2 _
              subst e1 e2
              obtain ⟨q0, q1, q2, ql, _, _, _⟩ := ky3 HK.out.kb
              have hS6 := And.intro q0 (And.intro q1 (And.intro q2 z4))
              refine hK.out _ _ (hS6) (fun hHeld => ?_)
              clear hK K
              try simp only [Act.put, List.setIfInBounds_toArray, List.set_cons_zero, List.set_cons_succ]
              refine takeW (i := 8) (v := ?v5042) rfl (by kernel_rfl) (by kernel_rfl) (by kernel_rfl) (fun _ _ _ h => h) (by kernel_rfl) hHeld ?hy5042 ?rest5042
              case hy5042 => (intro w hSw; (try dsimp only at hSw); go_simp; (try with_reducible rfl))
              try simp only [Act.put, List.setIfInBounds_toArray, List.set_cons_zero, List.set_cons_succ]
              refine takeW (i := 9) (v := ?v5043) rfl (by kernel_rfl) (by kernel_rfl) (by kernel_rfl) (fun _ _ _ h => h) (by kernel_rfl) hHeld ?hy5043 ?rest5043
              case hy5043 => (intro w hSw; (try dsimp only at hSw); go_simp; (try with_reducible rfl))
              try simp only [Act.put, List.setIfInBounds_toArray, List.set_cons_zero, List.set_cons_succ]
              refine takeW (i := 10) (v := ?v5044) rfl (by kernel_rfl) (by kernel_rfl) (by kernel_rfl) (fun _ _ _ h => h) (by kernel_rfl) hHeld ?hy5044 ?rest5044
              case hy5044 => (intro w hSw; (try dsimp only at hSw); go_simp; (try with_reducible rfl))
              try simp only [Act.put, List.setIfInBounds_toArray, List.set_cons_zero, List.set_cons_succ]
              refine wpAnyH_ready (rs := [12]) (by kernel_rfl) (by simp) ?_
              refine consL rfl (by kernel_rfl) (fun K hK => ?_) AllReadyH.nil
              obtain ⟨⟨r0, r1, r2, r3, r4, r5, r6⟩, ⟨f0, f1, f2, f3, f4, f5, f6⟩, rl⟩ := box7 hBx
              go_simp
              have hB7 : Below w5.heap.size w5 (set7 w6 w5.heap.size (.int .i64 0) (.int .i64 k) (.bool false) (.string KT) (.bool GB) (.string VT) (.slice none 0 0)) := hBk.trans ((set7_off w6 w5.heap.size _ _ _ _ _ _ _).below hBk.size (fun j hj => by omega))
              have HM2 := Lib.hid (HJ.out.later hB7)
              have HR2 := Lib.hid (set7_box hBx (.int .i64 0) (.int .i64 k) (.bool false) (.string KT) (.bool GB) (.string VT) (.slice none 0 0))
              clear q0 q1 q2 ql z1 z2 z3 z4 hbl
              obtain ⟨b', off', hA', hbl, _, z1, z2, z3, z4⟩ := oo_cells HL.out HM2.out.below HX.out
              injection hA' with hA'
              injection hA' with e1 e2 _
              subst e1 e2
              obtain ⟨q0, q1, q2, ql, _, _, _⟩ := ky3 HM2.out.kb
              refine hK.out _ _ (And.intro q0 (And.intro q1 (And.intro q2 z4))) (fun hHeld => ?_)
              clear hK K
              try simp only [Act.put, List.setIfInBounds_toArray, List.set_cons_zero, List.set_cons_succ]
              refine takeW (i := 13) (v := ?v5045) rfl (by kernel_rfl) (by kernel_rfl) (by kernel_rfl) (fun _ _ _ h => h) (by kernel_rfl) hHeld ?hy5045 ?rest5045
              case hy5045 => (intro w hSw; (try dsimp only at hSw); go_simp; (try with_reducible rfl))
              try simp only [Act.put, List.setIfInBounds_toArray, List.set_cons_zero, List.set_cons_succ]
              refine wpAnyH_done (by kernel_rfl) ?_ _
              clear hS5 hS6 hS4 hHeld r0 r1 r2 r3 r4 r5 r6 f0 f1 f2 f3 f4 f5 f6 rl q0 q1 q2 ql z1 z2 z3 z4 hbl HK HJ HJD hBz hBz0 hBx hBk hB7
              obtain ⟨w7, hw7⟩ : ∃ w7, (set7 w6 w5.heap.size (.int .i64 0) (.int .i64 k) (.bool false) (.string KT) (.bool GB) (.string VT) (.slice none 0 0)) = w7 := ⟨_, rfl⟩
              have hw8 : (((((((w6.setCell ⟨w5.heap.size, 0, none⟩ (.int .i64 0)).setCell ⟨w5.heap.size, 1, none⟩ (.int .i64 k)).setCell ⟨w5.heap.size, 2, none⟩ (.bool false)).setCell ⟨w5.heap.size, 3, none⟩ (.string KT)).setCell ⟨w5.heap.size, 4, none⟩ (.bool GB)).setCell ⟨w5.heap.size, 5, none⟩ (.string VT)).setCell ⟨w5.heap.size, 6, none⟩ (.slice none 0 0)) = w7 := hw7
              rw [hw7] at HM2 HR2
              rw [hw8]
              clear hw7 hw8
              generalize w5.heap.size = o2 at *
              obtain ⟨b', off', hA', hbl, _, z1, z2, z3, z4⟩ := oo_cells HL.out HM2.out.below HX.out
              injection hA' with hA'
              injection hA' with e1 e2 _
              subst e1 e2
              obtain ⟨q0, q1, q2, ql, _, _, _⟩ := ky3 HM2.out.kb
              have hne : (x.at_ == -1) = false := by have := HAT.out; simp [this]
              obtain ⟨⟨r0, r1, r2, r3, r4, r5, r6⟩, _, rl⟩ := box7 HR2.out
              have cA1 := cA _ HM2.out.otb
              clear cA
              go_wp2_with fail
              with_reducible refine cA1.mono ?_
              rintro en w8 ⟨rfl, hw⟩
              have HM3 := Lib.hid (HM2.out.wrb hw)
              clear hw cA1 r0 r1 r2 r3 r4 r5 r6 rl q0 q1 q2 ql z1 z2 z3 z4 hbl HM2
              obtain ⟨b', off', hA', hbl, _, z1, z2, z3, z4⟩ := oo_cells HL.out HM3.out.below HX.out
              injection hA' with hA'
              injection hA' with e1 e2 _
              subst e1 e2
              obtain ⟨q0, q1, q2, ql, _, _, _⟩ := ky3 HM3.out.kb
              have cG1 := get_v HM3.out.otb x.k HKY.out
              rw [HG.out] at cG1
              go_wp2_with fail
              with_reducible refine cG1.mono ?_
              rintro en w9 ⟨rfl, hb⟩
              have HM4 := Lib.hid (HM3.out.later hb)
              clear hb cG1 HM3 q0 q1 q2 ql z1 z2 z3 z4 hbl
              obtain ⟨b', off', hA', hbl, _, z1, z2, z3, z4⟩ := oo_cells HL.out HM4.out.below HX.out
              injection hA' with hA'
              injection hA' with e1 e2 _
              subst e1 e2
              obtain ⟨q0, q1, q2, ql, _, _, _⟩ := ky3 HM4.out.kb
              go_wp2_with fail
              exact ⟨⟨k + 1, by go_num, hkn, coS 100 F x.k x.at_, by have := HF.out; have := coS_len (room := 100) (F := F) (k := x.k) (a := x.at_); omega, ⟨HM4.out.ota, HM4.out.otb, HM4.out.gh, HM4.out.below⟩⟩, by simp [intOf]; omega⟩
          | false =>
            have hC2 := commit_not (F := F) hE (by omega) (by omega)
            have hCO := hC2.1
            have HCS : Hid (coS 100 F x.k x.at_ = F) := Lib.hid hC2.2
            clear hC2
            have cE := fun w => entry_not hE w
            have HAT := Lib.hid hat
            clear hat hE
            go_wp2_with fail
            have hS0 : wr.drew.cell? ⟨b, off + k * 12 + 1, none⟩ = some (.string x.k.g) ∧ wr.drew.cell? ⟨b, off + k * 12 + 2, none⟩ = some (.string x.k.t) ∧ wr.drew.cell? ⟨b, off + k * 12 + 3, none⟩ = some (.int .i64 x.k.i) ∧ wr.drew.cell? ⟨b, off + k * 12 + 4, none⟩ = some (.int .i64 x.at_) := ⟨z1, z2, z3, z4⟩
            have hD := (Below.refl wr.heap.size wr).drew
            refine wp_region_held_drew (S := (fun w => w.cell? ⟨b, off + k * 12 + 1, none⟩ = some (.string x.k.g) ∧ w.cell? ⟨b, off + k * 12 + 2, none⟩ = some (.string x.k.t) ∧ w.cell? ⟨b, off + k * 12 + 3, none⟩ = some (.int .i64 x.k.i) ∧ w.cell? ⟨b, off + k * 12 + 4, none⟩ = some (.int .i64 x.at_))) (by kernel_rfl) hS0 (fun hHeld => ?_)
            refine takeW (i := 0) (v := ?v58) rfl (by kernel_rfl) (by kernel_rfl) (by kernel_rfl) (fun _ _ _ h => h) (by kernel_rfl) hHeld ?hy58 ?rest58
            case hy58 => (intro w hSw; (try dsimp only at hSw); go_simp; (try with_reducible rfl))
            try simp only [Act.put, List.setIfInBounds_toArray, List.set_cons_zero, List.set_cons_succ]
            refine takeW (i := 1) (v := ?v59) rfl (by kernel_rfl) (by kernel_rfl) (by kernel_rfl) (fun _ _ _ h => h) (by kernel_rfl) hHeld ?hy59 ?rest59
            case hy59 => (intro w hSw; (try dsimp only at hSw); go_simp; (try with_reducible rfl))
            try simp only [Act.put, List.setIfInBounds_toArray, List.set_cons_zero, List.set_cons_succ]
            refine takeW (i := 2) (v := ?v60) rfl (by kernel_rfl) (by kernel_rfl) (by kernel_rfl) (fun _ _ _ h => h) (by kernel_rfl) hHeld ?hy60 ?rest60
            case hy60 => (intro w hSw; (try dsimp only at hSw); go_simp; (try with_reducible rfl))
            try simp only [Act.put, List.setIfInBounds_toArray, List.set_cons_zero, List.set_cons_succ]
            refine takeW (i := 3) (v := ?v61) rfl (by kernel_rfl) (by kernel_rfl) (by kernel_rfl) (fun _ _ _ h => h) (by kernel_rfl) hHeld ?hy61 ?rest61
            case hy61 => (intro w hSw; (try dsimp only at hSw); go_simp; (try with_reducible rfl))
            try simp only [Act.put, List.setIfInBounds_toArray, List.set_cons_zero, List.set_cons_succ]
            refine takeW (i := 4) (v := ?v62) rfl (by kernel_rfl) (by kernel_rfl) (by kernel_rfl) (fun _ _ _ h => h) (by kernel_rfl) hHeld ?hy62 ?rest62
            case hy62 => (intro w hSw; (try dsimp only at hSw); go_simp; (try with_reducible rfl))
            try simp only [Act.put, List.setIfInBounds_toArray, List.set_cons_zero, List.set_cons_succ]
            refine takeW (i := 5) (v := ?v63) rfl (by kernel_rfl) (by kernel_rfl) (by kernel_rfl) (fun _ _ _ h => h) (by kernel_rfl) hHeld ?hy63 ?rest63
            case hy63 => (intro w hSw; (try dsimp only at hSw); go_simp; (try with_reducible rfl))
            try simp only [Act.put, List.setIfInBounds_toArray, List.set_cons_zero, List.set_cons_succ]
            refine takeW (i := 6) (v := ?v64) rfl (by kernel_rfl) (by kernel_rfl) (by kernel_rfl) (fun _ _ _ h => h) (by kernel_rfl) hHeld ?hy64 ?rest64
            case hy64 => (intro w hSw; (try dsimp only at hSw); go_simp; (try with_reducible rfl))
            try simp only [Act.put, List.setIfInBounds_toArray, List.set_cons_zero, List.set_cons_succ]
            refine takeW (i := 7) (v := ?v65) rfl (by kernel_rfl) (by kernel_rfl) (by kernel_rfl) (fun _ _ _ h => h) (by kernel_rfl) hHeld ?hy65 ?rest65
            case hy65 => (intro w hSw; (try dsimp only at hSw); go_simp; (try with_reducible rfl))
            try simp only [Act.put, List.setIfInBounds_toArray, List.set_cons_zero, List.set_cons_succ]
            refine takeW (i := 8) (v := ?v66) rfl (by kernel_rfl) (by kernel_rfl) (by kernel_rfl) (fun _ _ _ h => h) (by kernel_rfl) hHeld ?hy66 ?rest66
            case hy66 => (intro w hSw; (try dsimp only at hSw); go_simp; (try with_reducible rfl))
            try simp only [Act.put, List.setIfInBounds_toArray, List.set_cons_zero, List.set_cons_succ]
            refine takeW (i := 9) (v := ?v67) rfl (by kernel_rfl) (by kernel_rfl) (by kernel_rfl) (fun _ _ _ h => h) (by kernel_rfl) hHeld ?hy67 ?rest67
            case hy67 => (intro w hSw; (try dsimp only at hSw); go_simp; (try with_reducible rfl))
            try simp only [Act.put, List.setIfInBounds_toArray, List.set_cons_zero, List.set_cons_succ]
            refine takeW (i := 10) (v := ?v68) rfl (by kernel_rfl) (by kernel_rfl) (by kernel_rfl) (fun _ _ _ h => h) (by kernel_rfl) hHeld ?hy68 ?rest68
            case hy68 => (intro w hSw; (try dsimp only at hSw); go_simp; (try with_reducible rfl))
            try simp only [Act.put, List.setIfInBounds_toArray, List.set_cons_zero, List.set_cons_succ]
            refine wpAnyH_ready (rs := [11]) (by kernel_rfl) (by simp) ?_
            refine consL rfl (by kernel_rfl) (fun K hK => ?_) AllReadyH.nil
            go_simp
            have hBA := hD.trans ((Below.refl wr.heap.size wr.drew).alloc (Nat.le_refl _) (.cells #[.string ⟨#[]⟩, .string ⟨#[]⟩, .int .i64 0] 45))
            have hbx : Box (wr.alloc (.cells #[.string ⟨#[]⟩, .string ⟨#[]⟩, .int .i64 0] 45)).drew wr.heap.size 45 #[.string ⟨#[]⟩, .string ⟨#[]⟩, .int .i64 0] := Box.new wr _ _
            have hS1 : (wr.alloc (.cells #[.string ⟨#[]⟩, .string ⟨#[]⟩, .int .i64 0] 45)).drew.cell? ⟨b, off + k * 12 + 1, none⟩ = some (.string x.k.g) ∧ (wr.alloc (.cells #[.string ⟨#[]⟩, .string ⟨#[]⟩, .int .i64 0] 45)).drew.cell? ⟨b, off + k * 12 + 2, none⟩ = some (.string x.k.t) ∧ (wr.alloc (.cells #[.string ⟨#[]⟩, .string ⟨#[]⟩, .int .i64 0] 45)).drew.cell? ⟨b, off + k * 12 + 3, none⟩ = some (.int .i64 x.k.i) ∧ (wr.alloc (.cells #[.string ⟨#[]⟩, .string ⟨#[]⟩, .int .i64 0] 45)).drew.cell? ⟨b, off + k * 12 + 4, none⟩ = some (.int .i64 x.at_) := ⟨(hBA.cell (p := ⟨b, off + k * 12 + 1, none⟩) hbl).trans z1, (hBA.cell (p := ⟨b, off + k * 12 + 2, none⟩) hbl).trans z2, (hBA.cell (p := ⟨b, off + k * 12 + 3, none⟩) hbl).trans z3, (hBA.cell (p := ⟨b, off + k * 12 + 4, none⟩) hbl).trans z4⟩
            refine hK.out _ _ (hS1) (fun hHeld => ?_)
            clear hK K
            try simp only [Act.put, List.setIfInBounds_toArray, List.set_cons_zero, List.set_cons_succ]
            refine wpAnyH_ready (rs := [12]) (by kernel_rfl) (by simp) ?_
            refine consL rfl (by kernel_rfl) (fun K hK => ?_) AllReadyH.nil
            go_simp
            have hBA := hD.trans ((Below.refl wr.heap.size wr.drew).alloc (Nat.le_refl _) (.cells #[.string x.k.g, .string x.k.t, .int .i64 x.k.i] 45))
            have hS2 : (wr.alloc (.cells #[.string x.k.g, .string x.k.t, .int .i64 x.k.i] 45)).drew.cell? ⟨b, off + k * 12 + 1, none⟩ = some (.string x.k.g) ∧ (wr.alloc (.cells #[.string x.k.g, .string x.k.t, .int .i64 x.k.i] 45)).drew.cell? ⟨b, off + k * 12 + 2, none⟩ = some (.string x.k.t) ∧ (wr.alloc (.cells #[.string x.k.g, .string x.k.t, .int .i64 x.k.i] 45)).drew.cell? ⟨b, off + k * 12 + 3, none⟩ = some (.int .i64 x.k.i) ∧ (wr.alloc (.cells #[.string x.k.g, .string x.k.t, .int .i64 x.k.i] 45)).drew.cell? ⟨b, off + k * 12 + 4, none⟩ = some (.int .i64 x.at_) := ⟨(hBA.cell (p := ⟨b, off + k * 12 + 1, none⟩) hbl).trans z1, (hBA.cell (p := ⟨b, off + k * 12 + 2, none⟩) hbl).trans z2, (hBA.cell (p := ⟨b, off + k * 12 + 3, none⟩) hbl).trans z3, (hBA.cell (p := ⟨b, off + k * 12 + 4, none⟩) hbl).trans z4⟩
            refine hK.out _ _ (hS2) (fun hHeld => ?_)
            clear hK K
            try simp only [Act.put, List.setIfInBounds_toArray, List.set_cons_zero, List.set_cons_succ]
            refine wpAnyH_done (by kernel_rfl) ?_ _
            have hX1 : Box (wr.alloc (.cells #[.string x.k.g, .string x.k.t, .int .i64 x.k.i] 45)).drew wr.heap.size 45 #[.string x.k.g, .string x.k.t, .int .i64 x.k.i] := Box.new wr _ _
            have hBK := hD.trans ((Below.refl wr.heap.size wr.drew).alloc (Nat.le_refl _) (.cells #[.string x.k.g, .string x.k.t, .int .i64 x.k.i] 45))
            have HI : Hid (LaI W p g q h F F wr.heap.size x.k (wr.alloc (.cells #[.string x.k.g, .string x.k.t, .int .i64 x.k.i] 45)).drew) := Lib.hid ⟨HO.out.ota.later hBK, HO.out.otb.later hBK, HO.out.gh, hX1, HO.out.below.trans (hBK.mono HO.out.below.size)⟩
            clear hBK hX1 hD z1 z2 z3 z4 hbl hS0 hS1 hS2 hbx hHeld HO
            generalize (wr.alloc (.cells #[.string x.k.g, .string x.k.t, .int .i64 x.k.i] 45)).drew = w4 at *
            generalize wr.heap.size = o1 at *
            obtain ⟨b', off', hA', hbl, _, z1, z2, z3, z4⟩ := oo_cells HL.out HI.out.below HX.out
            injection hA' with hA'
            injection hA' with e1 e2 _
            subst e1 e2
            obtain ⟨q0, q1, q2, ql, _, _, _⟩ := ky3 HI.out.kb
            go_wp2_with fail
            have hS0 : w4.drew.cell? ⟨o1, 0, none⟩ = some (.string x.k.g) ∧ w4.drew.cell? ⟨o1, 1, none⟩ = some (.string x.k.t) ∧ w4.drew.cell? ⟨o1, 2, none⟩ = some (.int .i64 x.k.i) ∧ w4.drew.cell? ⟨b, off + k * 12 + 4, none⟩ = some (.int .i64 x.at_) := ⟨q0, q1, q2, z4⟩
            have HID := Lib.hid (HI.out.later (Below.refl _ _).drew)
            have cm1 := commit_v HID.out.ota x.k x.at_
            rw [hCO] at cm1
            refine wp_region_held_drew (S := (fun w => w.cell? ⟨o1, 0, none⟩ = some (.string x.k.g) ∧ w.cell? ⟨o1, 1, none⟩ = some (.string x.k.t) ∧ w.cell? ⟨o1, 2, none⟩ = some (.int .i64 x.k.i) ∧ w.cell? ⟨b, off + k * 12 + 4, none⟩ = some (.int .i64 x.at_))) (by kernel_rfl) hS0 (fun hHeld => ?_)
            refine takeW (i := 0) (v := ?v69) rfl (by kernel_rfl) (by kernel_rfl) (by kernel_rfl) (fun _ _ _ h => h) (by kernel_rfl) hHeld ?hy69 ?rest69
            case hy69 => (intro w hSw; (try dsimp only at hSw); go_simp; (try with_reducible rfl))
            try simp only [Act.put, List.setIfInBounds_toArray, List.set_cons_zero, List.set_cons_succ]
            refine takeW (i := 1) (v := ?v70) rfl (by kernel_rfl) (by kernel_rfl) (by kernel_rfl) (fun _ _ _ h => h) (by kernel_rfl) hHeld ?hy70 ?rest70
            case hy70 => (intro w hSw; (try dsimp only at hSw); go_simp; (try with_reducible rfl))
            try simp only [Act.put, List.setIfInBounds_toArray, List.set_cons_zero, List.set_cons_succ]
            refine takeW (i := 2) (v := ?v71) rfl (by kernel_rfl) (by kernel_rfl) (by kernel_rfl) (fun _ _ _ h => h) (by kernel_rfl) hHeld ?hy71 ?rest71
            case hy71 => (intro w hSw; (try dsimp only at hSw); go_simp; (try with_reducible rfl))
            try simp only [Act.put, List.setIfInBounds_toArray, List.set_cons_zero, List.set_cons_succ]
            refine takeW (i := 3) (v := ?v72) rfl (by kernel_rfl) (by kernel_rfl) (by kernel_rfl) (fun _ _ _ h => h) (by kernel_rfl) hHeld ?hy72 ?rest72
            case hy72 => (intro w hSw; (try dsimp only at hSw); go_simp; (try with_reducible rfl))
            try simp only [Act.put, List.setIfInBounds_toArray, List.set_cons_zero, List.set_cons_succ]
            refine takeW (i := 4) (v := ?v73) rfl (by kernel_rfl) (by kernel_rfl) (by kernel_rfl) (fun _ _ _ h => h) (by kernel_rfl) hHeld ?hy73 ?rest73
            case hy73 => (intro w hSw; (try dsimp only at hSw); go_simp; (try with_reducible rfl))
            try simp only [Act.put, List.setIfInBounds_toArray, List.set_cons_zero, List.set_cons_succ]
            refine takeW (i := 5) (v := ?v74) rfl (by kernel_rfl) (by kernel_rfl) (by kernel_rfl) (fun _ _ _ h => h) (by kernel_rfl) hHeld ?hy74 ?rest74
            case hy74 => (intro w hSw; (try dsimp only at hSw); go_simp; (try with_reducible rfl))
            try simp only [Act.put, List.setIfInBounds_toArray, List.set_cons_zero, List.set_cons_succ]
            refine takeW (i := 6) (v := ?v75) rfl (by kernel_rfl) (by kernel_rfl) (by kernel_rfl) (fun _ _ _ h => h) (by kernel_rfl) hHeld ?hy75 ?rest75
            case hy75 => (intro w hSw; (try dsimp only at hSw); go_simp; (try with_reducible rfl))
            try simp only [Act.put, List.setIfInBounds_toArray, List.set_cons_zero, List.set_cons_succ]
            refine wpAnyH_ready (rs := [7]) (by kernel_rfl) (by simp) ?_
            refine consL rfl (by kernel_rfl) (fun K hK => ?_) AllReadyH.nil
            go_simp
            with_reducible refine cm1.mono ?_
            rintro en w5 ⟨rfl, hw⟩
            have HJ := Lib.hid (HID.out.wra hw)
            clear hw cm1 q0 q1 q2 ql z1 z2 z3 z4 hbl HI HID
            obtain ⟨b', off', hA', hbl, _, z1, z2, z3, z4⟩ := oo_cells HL.out HJ.out.below HX.out
            injection hA' with hA'
            injection hA' with e1 e2 _
            subst e1 e2
            obtain ⟨q0, q1, q2, ql, _, _, _⟩ := ky3 HJ.out.kb
            have hS3 := And.intro q0 (And.intro q1 (And.intro q2 z4))
            refine hK.out _ _ (hS3) (fun hHeld => ?_)
            clear hK K
            try simp only [Act.put, List.setIfInBounds_toArray, List.set_cons_zero, List.set_cons_succ]
            refine takeW (i := 8) (v := ?v76) rfl (by kernel_rfl) (by kernel_rfl) (by kernel_rfl) (fun _ _ _ h => h) (by kernel_rfl) hHeld ?hy76 ?rest76
            case hy76 => (intro w hSw; (try dsimp only at hSw); go_simp; (try with_reducible rfl))
            try simp only [Act.put, List.setIfInBounds_toArray, List.set_cons_zero, List.set_cons_succ]
            refine wpAnyH_done (by kernel_rfl) ?_ _
            clear hHeld hS0
            go_wp2_with fail
            have hS4 : w5.drew.cell? ⟨o1, 0, none⟩ = some (.string x.k.g) ∧ w5.drew.cell? ⟨o1, 1, none⟩ = some (.string x.k.t) ∧ w5.drew.cell? ⟨o1, 2, none⟩ = some (.int .i64 x.k.i) ∧ w5.drew.cell? ⟨b, off + k * 12 + 4, none⟩ = some (.int .i64 x.at_) := ⟨q0, q1, q2, z4⟩
            have HJD := Lib.hid (HJ.out.later (Below.refl _ _).drew)
            refine wp_region_held_drew (S := (fun w => w.cell? ⟨o1, 0, none⟩ = some (.string x.k.g) ∧ w.cell? ⟨o1, 1, none⟩ = some (.string x.k.t) ∧ w.cell? ⟨o1, 2, none⟩ = some (.int .i64 x.k.i) ∧ w.cell? ⟨b, off + k * 12 + 4, none⟩ = some (.int .i64 x.at_))) (by kernel_rfl) hS4 (fun hHeld => ?_)
            refine takeW (i := 0) (v := ?v5046) rfl (by kernel_rfl) (by kernel_rfl) (by kernel_rfl) (fun _ _ _ h => h) (by kernel_rfl) hHeld ?hy5046 ?rest5046
            case hy5046 => (intro w hSw; (try dsimp only at hSw); go_simp; (try with_reducible rfl))
            try simp only [Act.put, List.setIfInBounds_toArray, List.set_cons_zero, List.set_cons_succ]
            refine takeW (i := 1) (v := ?v5047) rfl (by kernel_rfl) (by kernel_rfl) (by kernel_rfl) (fun _ _ _ h => h) (by kernel_rfl) hHeld ?hy5047 ?rest5047
            case hy5047 => (intro w hSw; (try dsimp only at hSw); go_simp; (try with_reducible rfl))
            try simp only [Act.put, List.setIfInBounds_toArray, List.set_cons_zero, List.set_cons_succ]
            refine takeW (i := 2) (v := ?v5048) rfl (by kernel_rfl) (by kernel_rfl) (by kernel_rfl) (fun _ _ _ h => h) (by kernel_rfl) hHeld ?hy5048 ?rest5048
            case hy5048 => (intro w hSw; (try dsimp only at hSw); go_simp; (try with_reducible rfl))
            try simp only [Act.put, List.setIfInBounds_toArray, List.set_cons_zero, List.set_cons_succ]
            refine takeW (i := 3) (v := ?v5049) rfl (by kernel_rfl) (by kernel_rfl) (by kernel_rfl) (fun _ _ _ h => h) (by kernel_rfl) hHeld ?hy5049 ?rest5049
            case hy5049 => (intro w hSw; (try dsimp only at hSw); go_simp; (try with_reducible rfl))
            try simp only [Act.put, List.setIfInBounds_toArray, List.set_cons_zero, List.set_cons_succ]
            refine takeW (i := 4) (v := ?v5050) rfl (by kernel_rfl) (by kernel_rfl) (by kernel_rfl) (fun _ _ _ h => h) (by kernel_rfl) hHeld ?hy5050 ?rest5050
            case hy5050 => (intro w hSw; (try dsimp only at hSw); go_simp; (try with_reducible rfl))
            try simp only [Act.put, List.setIfInBounds_toArray, List.set_cons_zero, List.set_cons_succ]
            refine takeW (i := 5) (v := ?v5051) rfl (by kernel_rfl) (by kernel_rfl) (by kernel_rfl) (fun _ _ _ h => h) (by kernel_rfl) hHeld ?hy5051 ?rest5051
            case hy5051 => (intro w hSw; (try dsimp only at hSw); go_simp; (try with_reducible rfl))
            try simp only [Act.put, List.setIfInBounds_toArray, List.set_cons_zero, List.set_cons_succ]
            refine takeW (i := 6) (v := ?v5052) rfl (by kernel_rfl) (by kernel_rfl) (by kernel_rfl) (fun _ _ _ h => h) (by kernel_rfl) hHeld ?hy5052 ?rest5052
            case hy5052 => (intro w hSw; (try dsimp only at hSw); go_simp; (try with_reducible rfl))
            try simp only [Act.put, List.setIfInBounds_toArray, List.set_cons_zero, List.set_cons_succ]
            refine wpAnyH_ready (rs := [7, 11]) (by kernel_rfl) (by simp) ?_
            refine consL rfl (by kernel_rfl) (fun K hK => ?_) (consL rfl (by kernel_rfl) (fun K hK => ?_) AllReadyH.nil)
            · go_simp
              with_reducible refine (cE _).mono ?_
              rintro en w6 ⟨rfl, hb⟩
              have HK := Lib.hid (HJD.out.later hb)
              clear hb cE q0 q1 q2 ql z1 z2 z3 z4 hbl HJ HJD
              obtain ⟨b', off', hA', hbl, _, z1, z2, z3, z4⟩ := oo_cells HL.out HK.out.below HX.out
              injection hA' with hA'
              injection hA' with e1 e2 _
              subst e1 e2
              obtain ⟨q0, q1, q2, ql, _, _, _⟩ := ky3 HK.out.kb
              have hS5 := And.intro q0 (And.intro q1 (And.intro q2 z4))
              refine hK.out _ _ (hS5) (fun hHeld => ?_)
              clear hK K
              try simp only [Act.put, List.setIfInBounds_toArray, List.set_cons_zero, List.set_cons_succ]
              refine takeW (i := 8) (v := ?v5053) rfl (by kernel_rfl) (by kernel_rfl) (by kernel_rfl) (fun _ _ _ h => h) (by kernel_rfl) hHeld ?hy5053 ?rest5053
              case hy5053 => (intro w hSw; (try dsimp only at hSw); go_simp; (try with_reducible rfl))
              try simp only [Act.put, List.setIfInBounds_toArray, List.set_cons_zero, List.set_cons_succ]
              refine takeW (i := 9) (v := ?v5054) rfl (by kernel_rfl) (by kernel_rfl) (by kernel_rfl) (fun _ _ _ h => h) (by kernel_rfl) hHeld ?hy5054 ?rest5054
              case hy5054 => (intro w hSw; (try dsimp only at hSw); go_simp; (try with_reducible rfl))
              try simp only [Act.put, List.setIfInBounds_toArray, List.set_cons_zero, List.set_cons_succ]
              refine takeW (i := 10) (v := ?v5055) rfl (by kernel_rfl) (by kernel_rfl) (by kernel_rfl) (fun _ _ _ h => h) (by kernel_rfl) hHeld ?hy5055 ?rest5055
              case hy5055 => (intro w hSw; (try dsimp only at hSw); go_simp; (try with_reducible rfl))
              try simp only [Act.put, List.setIfInBounds_toArray, List.set_cons_zero, List.set_cons_succ]
              refine wpAnyH_ready (rs := [11]) (by kernel_rfl) (by simp) ?_
              refine consL rfl (by kernel_rfl) (fun K hK => ?_) AllReadyH.nil
              go_simp
              have hBA := (Below.refl w6.heap.size w6).alloc (Nat.le_refl _) (.cells #[.int .i64 0, .int .i64 0, .bool false, .string ⟨#[]⟩, .bool false, .string ⟨#[]⟩, .slice none 0 0] 34)
              obtain ⟨⟨r0, r1, r2, r3, r4, r5, r6⟩, ⟨f0, f1, f2, f3, f4, f5, f6⟩, rl⟩ := box7 (Box.new w6 34 #[.int .i64 0, .int .i64 0, .bool false, .string ⟨#[]⟩, .bool false, .string ⟨#[]⟩, .slice none 0 0])
              have hS6 : (w6.alloc (.cells #[.int .i64 0, .int .i64 0, .bool false, .string ⟨#[]⟩, .bool false, .string ⟨#[]⟩, .slice none 0 0] 34)).cell? ⟨o1, 0, none⟩ = some (.string x.k.g) ∧ (w6.alloc (.cells #[.int .i64 0, .int .i64 0, .bool false, .string ⟨#[]⟩, .bool false, .string ⟨#[]⟩, .slice none 0 0] 34)).cell? ⟨o1, 1, none⟩ = some (.string x.k.t) ∧ (w6.alloc (.cells #[.int .i64 0, .int .i64 0, .bool false, .string ⟨#[]⟩, .bool false, .string ⟨#[]⟩, .slice none 0 0] 34)).cell? ⟨o1, 2, none⟩ = some (.int .i64 x.k.i) ∧ (w6.alloc (.cells #[.int .i64 0, .int .i64 0, .bool false, .string ⟨#[]⟩, .bool false, .string ⟨#[]⟩, .slice none 0 0] 34)).cell? ⟨b, off + k * 12 + 4, none⟩ = some (.int .i64 x.at_) := ⟨(hBA.cell (p := ⟨o1, 0, none⟩) ql).trans q0, (hBA.cell (p := ⟨o1, 1, none⟩) ql).trans q1, (hBA.cell (p := ⟨o1, 2, none⟩) ql).trans q2, (hBA.cell (p := ⟨b, off + k * 12 + 4, none⟩) hbl).trans z4⟩
              refine hK.out _ _ (hS6) (fun hHeld => ?_)
              clear hK K
              try simp only [Act.put, List.setIfInBounds_toArray, List.set_cons_zero, List.set_cons_succ]
              refine wpAnyH_ready (rs := [12]) (by kernel_rfl) (by simp) ?_
              refine consL rfl (by kernel_rfl) (fun K hK => ?_) AllReadyH.nil
              go_simp
              have hBA := (Below.refl w6.heap.size w6).alloc (Nat.le_refl _) (.cells #[.int .i64 0, .int .i64 0, .bool false, .string ⟨#[]⟩, .bool false, .string ⟨#[]⟩, .slice none 0 0] 34)
              have hS7 : (w6.alloc (.cells #[.int .i64 0, .int .i64 0, .bool false, .string ⟨#[]⟩, .bool false, .string ⟨#[]⟩, .slice none 0 0] 34)).cell? ⟨o1, 0, none⟩ = some (.string x.k.g) ∧ (w6.alloc (.cells #[.int .i64 0, .int .i64 0, .bool false, .string ⟨#[]⟩, .bool false, .string ⟨#[]⟩, .slice none 0 0] 34)).cell? ⟨o1, 1, none⟩ = some (.string x.k.t) ∧ (w6.alloc (.cells #[.int .i64 0, .int .i64 0, .bool false, .string ⟨#[]⟩, .bool false, .string ⟨#[]⟩, .slice none 0 0] 34)).cell? ⟨o1, 2, none⟩ = some (.int .i64 x.k.i) ∧ (w6.alloc (.cells #[.int .i64 0, .int .i64 0, .bool false, .string ⟨#[]⟩, .bool false, .string ⟨#[]⟩, .slice none 0 0] 34)).cell? ⟨b, off + k * 12 + 4, none⟩ = some (.int .i64 x.at_) := ⟨(hBA.cell (p := ⟨o1, 0, none⟩) ql).trans q0, (hBA.cell (p := ⟨o1, 1, none⟩) ql).trans q1, (hBA.cell (p := ⟨o1, 2, none⟩) ql).trans q2, (hBA.cell (p := ⟨b, off + k * 12 + 4, none⟩) hbl).trans z4⟩
              refine hK.out _ _ (hS7) (fun hHeld => ?_)
              clear hK K
              try simp only [Act.put, List.setIfInBounds_toArray, List.set_cons_zero, List.set_cons_succ]
              refine takeW (i := 13) (v := ?v5056) rfl (by kernel_rfl) (by kernel_rfl) (by kernel_rfl) (fun _ _ _ h => h) (by kernel_rfl) hHeld ?hy5056 ?rest5056
              case hy5056 => (intro w hSw; (try dsimp only at hSw); go_simp; (try with_reducible rfl))
              try simp only [Act.put, List.setIfInBounds_toArray, List.set_cons_zero, List.set_cons_succ]
              refine wpAnyH_done (by kernel_rfl) ?_ _
              have hBR := (Below.refl w6.heap.size w6).alloc (Nat.le_refl _) (.cells #[.int .i64 0, .int .i64 0, .bool false, .string ⟨#[]⟩, .bool false, .string ⟨#[]⟩, .slice none 0 0] 34)
              have HM2 := Lib.hid (HK.out.later hBR)
              have HR2 := Lib.hid (Box.new w6 34 #[.int .i64 0, .int .i64 0, .bool false, .string ⟨#[]⟩, .bool false, .string ⟨#[]⟩, .slice none 0 0])
              clear hBR hBA hS5 hS6 hS7 hS4 hHeld r0 r1 r2 r3 r4 r5 r6 f0 f1 f2 f3 f4 f5 f6 rl q0 q1 q2 ql z1 z2 z3 z4 hbl HK
              generalize (w6.alloc (.cells #[.int .i64 0, .int .i64 0, .bool false, .string ⟨#[]⟩, .bool false, .string ⟨#[]⟩, .slice none 0 0] 34)) = w7 at *
              generalize w6.heap.size = o2 at *
              obtain ⟨b', off', hA', hbl, _, z1, z2, z3, z4⟩ := oo_cells HL.out HM2.out.below HX.out
              injection hA' with hA'
              injection hA' with e1 e2 _
              subst e1 e2
              obtain ⟨q0, q1, q2, ql, _, _, _⟩ := ky3 HM2.out.kb
              have HM3 : Hid (LaI W p g q h F F o1 x.k w7) := Lib.hid (by have := HM2.out; rw [HCS.out] at this; exact this)
              clear HM2 HCS
              have hne : (x.at_ == -1) = false := by have := HAT.out; simp [this]
              obtain ⟨⟨r0, r1, r2, r3, r4, r5, r6⟩, _, rl⟩ := box7 HR2.out
              have cG1 := get_v HM3.out.otb x.k HKY.out
              obtain ⟨r9, hr9⟩ : ∃ r9, geR F x.k = r9 := ⟨_, rfl⟩
              rw [hr9] at cG1
              clear hr9
              obtain ⟨vb, bb⟩ := r9
              go_wp2_with fail
              with_reducible refine cG1.mono ?_
              rintro en w9 ⟨rfl, hb⟩
              have HM4 := Lib.hid (HM3.out.later hb)
              clear hb cG1 HM3 q0 q1 q2 ql z1 z2 z3 z4 hbl
              obtain ⟨b', off', hA', hbl, _, z1, z2, z3, z4⟩ := oo_cells HL.out HM4.out.below HX.out
              injection hA' with hA'
              injection hA' with e1 e2 _
              subst e1 e2
              obtain ⟨q0, q1, q2, ql, _, _, _⟩ := ky3 HM4.out.kb
              go_wp2_with fail
              exact ⟨⟨k + 1, by go_num, hkn, F, by have := HF.out; omega, ⟨HM4.out.ota, HM4.out.otb, HM4.out.gh, HM4.out.below⟩⟩, by simp [intOf]; omega⟩
            · go_simp
              have hBz : Below w5.heap.size w5 (w5.alloc (.cells #[.int .i64 0, .int .i64 0, .bool false, .string ⟨#[]⟩, .bool false, .string ⟨#[]⟩, .slice none 0 0] 34)).drew := ((Below.refl w5.heap.size w5).alloc (Nat.le_refl _) _).trans ((Below.refl _ _).drew)
              have hBz0 : Box (w5.alloc (.cells #[.int .i64 0, .int .i64 0, .bool false, .string ⟨#[]⟩, .bool false, .string ⟨#[]⟩, .slice none 0 0] 34)).drew w5.heap.size 34 #[.int .i64 0, .int .i64 0, .bool false, .string ⟨#[]⟩, .bool false, .string ⟨#[]⟩, .slice none 0 0] := Box.new w5 _ _
              have hS5 : (w5.alloc (.cells #[.int .i64 0, .int .i64 0, .bool false, .string ⟨#[]⟩, .bool false, .string ⟨#[]⟩, .slice none 0 0] 34)).drew.cell? ⟨o1, 0, none⟩ = some (.string x.k.g) ∧ (w5.alloc (.cells #[.int .i64 0, .int .i64 0, .bool false, .string ⟨#[]⟩, .bool false, .string ⟨#[]⟩, .slice none 0 0] 34)).drew.cell? ⟨o1, 1, none⟩ = some (.string x.k.t) ∧ (w5.alloc (.cells #[.int .i64 0, .int .i64 0, .bool false, .string ⟨#[]⟩, .bool false, .string ⟨#[]⟩, .slice none 0 0] 34)).drew.cell? ⟨o1, 2, none⟩ = some (.int .i64 x.k.i) ∧ (w5.alloc (.cells #[.int .i64 0, .int .i64 0, .bool false, .string ⟨#[]⟩, .bool false, .string ⟨#[]⟩, .slice none 0 0] 34)).drew.cell? ⟨b, off + k * 12 + 4, none⟩ = some (.int .i64 x.at_) := ⟨(hBz.cell (p := ⟨o1, 0, none⟩) ql).trans q0, (hBz.cell (p := ⟨o1, 1, none⟩) ql).trans q1, (hBz.cell (p := ⟨o1, 2, none⟩) ql).trans q2, (hBz.cell (p := ⟨b, off + k * 12 + 4, none⟩) hbl).trans z4⟩
              refine hK.out _ _ (hS5) (fun hHeld => ?_)
              clear hK K
              try simp only [Act.put, List.setIfInBounds_toArray, List.set_cons_zero, List.set_cons_succ]
              refine wpAnyH_ready (rs := [7]) (by kernel_rfl) (by simp) ?_
              refine consL rfl (by kernel_rfl) (fun K hK => ?_) AllReadyH.nil
              go_simp
              with_reducible refine (cE _).mono ?_
              rintro en w6 ⟨rfl, hb⟩
              have hBk : Below w5.heap.size w5 w6 := hBz.trans (hb.mono hBz.size)
              have hBx := hBz0.later hb
              have HK := Lib.hid (HJ.out.later hBk)
              clear hb cE q0 q1 q2 ql z1 z2 z3 z4 hbl
              obtain ⟨b', off', hA', hbl, _, z1, z2, z3, z4⟩ := oo_cells HL.out HK.out.below HX.out
              injection hA' with hA'
              injection hA' with e1 e2 _
              subst e1 e2
              obtain ⟨q0, q1, q2, ql, _, _, _⟩ := ky3 HK.out.kb
              have hS6 := And.intro q0 (And.intro q1 (And.intro q2 z4))
              refine hK.out _ _ (hS6) (fun hHeld => ?_)
              clear hK K
              try simp only [Act.put, List.setIfInBounds_toArray, List.set_cons_zero, List.set_cons_succ]
              refine takeW (i := 8) (v := ?v5057) rfl (by kernel_rfl) (by kernel_rfl) (by kernel_rfl) (fun _ _ _ h => h) (by kernel_rfl) hHeld ?hy5057 ?rest5057
              case hy5057 => (intro w hSw; (try dsimp only at hSw); go_simp; (try with_reducible rfl))
              try simp only [Act.put, List.setIfInBounds_toArray, List.set_cons_zero, List.set_cons_succ]
              refine takeW (i := 9) (v := ?v5058) rfl (by kernel_rfl) (by kernel_rfl) (by kernel_rfl) (fun _ _ _ h => h) (by kernel_rfl) hHeld ?hy5058 ?rest5058
              case hy5058 => (intro w hSw; (try dsimp only at hSw); go_simp; (try with_reducible rfl))
              try simp only [Act.put, List.setIfInBounds_toArray, List.set_cons_zero, List.set_cons_succ]
              refine takeW (i := 10) (v := ?v5059) rfl (by kernel_rfl) (by kernel_rfl) (by kernel_rfl) (fun _ _ _ h => h) (by kernel_rfl) hHeld ?hy5059 ?rest5059
              case hy5059 => (intro w hSw; (try dsimp only at hSw); go_simp; (try with_reducible rfl))
              try simp only [Act.put, List.setIfInBounds_toArray, List.set_cons_zero, List.set_cons_succ]
              refine wpAnyH_ready (rs := [12]) (by kernel_rfl) (by simp) ?_
              refine consL rfl (by kernel_rfl) (fun K hK => ?_) AllReadyH.nil
              obtain ⟨⟨r0, r1, r2, r3, r4, r5, r6⟩, ⟨f0, f1, f2, f3, f4, f5, f6⟩, rl⟩ := box7 hBx
              go_simp
              have hB7 : Below w5.heap.size w5 (set7 w6 w5.heap.size (.int .i64 0) (.int .i64 0) (.bool false) (.string ⟨#[]⟩) (.bool false) (.string ⟨#[]⟩) (.slice none 0 0)) := hBk.trans ((set7_off w6 w5.heap.size _ _ _ _ _ _ _).below hBk.size (fun j hj => by omega))
              have HM2 := Lib.hid (HJ.out.later hB7)
              have HR2 := Lib.hid (set7_box hBx (.int .i64 0) (.int .i64 0) (.bool false) (.string ⟨#[]⟩) (.bool false) (.string ⟨#[]⟩) (.slice none 0 0))
              clear q0 q1 q2 ql z1 z2 z3 z4 hbl
              obtain ⟨b', off', hA', hbl, _, z1, z2, z3, z4⟩ := oo_cells HL.out HM2.out.below HX.out
              injection hA' with hA'
              injection hA' with e1 e2 _
              subst e1 e2
              obtain ⟨q0, q1, q2, ql, _, _, _⟩ := ky3 HM2.out.kb
              refine hK.out _ _ (And.intro q0 (And.intro q1 (And.intro q2 z4))) (fun hHeld => ?_)
              clear hK K
              try simp only [Act.put, List.setIfInBounds_toArray, List.set_cons_zero, List.set_cons_succ]
              refine takeW (i := 13) (v := ?v5060) rfl (by kernel_rfl) (by kernel_rfl) (by kernel_rfl) (fun _ _ _ h => h) (by kernel_rfl) hHeld ?hy5060 ?rest5060
              case hy5060 => (intro w hSw; (try dsimp only at hSw); go_simp; (try with_reducible rfl))
              try simp only [Act.put, List.setIfInBounds_toArray, List.set_cons_zero, List.set_cons_succ]
              refine wpAnyH_done (by kernel_rfl) ?_ _
              clear hS5 hS6 hS4 hHeld r0 r1 r2 r3 r4 r5 r6 f0 f1 f2 f3 f4 f5 f6 rl q0 q1 q2 ql z1 z2 z3 z4 hbl HK HJ HJD hBz hBz0 hBx hBk hB7
              obtain ⟨w7, hw7⟩ : ∃ w7, (set7 w6 w5.heap.size (.int .i64 0) (.int .i64 0) (.bool false) (.string ⟨#[]⟩) (.bool false) (.string ⟨#[]⟩) (.slice none 0 0)) = w7 := ⟨_, rfl⟩
              have hw8 : (((((((w6.setCell ⟨w5.heap.size, 0, none⟩ (.int .i64 0)).setCell ⟨w5.heap.size, 1, none⟩ (.int .i64 0)).setCell ⟨w5.heap.size, 2, none⟩ (.bool false)).setCell ⟨w5.heap.size, 3, none⟩ (.string ⟨#[]⟩)).setCell ⟨w5.heap.size, 4, none⟩ (.bool false)).setCell ⟨w5.heap.size, 5, none⟩ (.string ⟨#[]⟩)).setCell ⟨w5.heap.size, 6, none⟩ (.slice none 0 0)) = w7 := hw7
              rw [hw7] at HM2 HR2
              rw [hw8]
              clear hw7 hw8
              generalize w5.heap.size = o2 at *
              obtain ⟨b', off', hA', hbl, _, z1, z2, z3, z4⟩ := oo_cells HL.out HM2.out.below HX.out
              injection hA' with hA'
              injection hA' with e1 e2 _
              subst e1 e2
              obtain ⟨q0, q1, q2, ql, _, _, _⟩ := ky3 HM2.out.kb
              have HM3 : Hid (LaI W p g q h F F o1 x.k w7) := Lib.hid (by have := HM2.out; rw [HCS.out] at this; exact this)
              clear HM2 HCS
              have hne : (x.at_ == -1) = false := by have := HAT.out; simp [this]
              obtain ⟨⟨r0, r1, r2, r3, r4, r5, r6⟩, _, rl⟩ := box7 HR2.out
              have cG1 := get_v HM3.out.otb x.k HKY.out
              obtain ⟨r9, hr9⟩ : ∃ r9, geR F x.k = r9 := ⟨_, rfl⟩
              rw [hr9] at cG1
              clear hr9
              obtain ⟨vb, bb⟩ := r9
              go_wp2_with fail
              with_reducible refine cG1.mono ?_
              rintro en w9 ⟨rfl, hb⟩
              have HM4 := Lib.hid (HM3.out.later hb)
              clear hb cG1 HM3 q0 q1 q2 ql z1 z2 z3 z4 hbl
              obtain ⟨b', off', hA', hbl, _, z1, z2, z3, z4⟩ := oo_cells HL.out HM4.out.below HX.out
              injection hA' with hA'
              injection hA' with e1 e2 _
              subst e1 e2
              obtain ⟨q0, q1, q2, ql, _, _, _⟩ := ky3 HM4.out.kb
              go_wp2_with fail
              exact ⟨⟨k + 1, by go_num, hkn, F, by have := HF.out; omega, ⟨HM4.out.ota, HM4.out.otb, HM4.out.gh, HM4.out.below⟩⟩, by simp [intOf]; omega⟩
      · have hkn' : ¬ (k : Int) < (n : Int) := by omega
        have ck := keys_v HO.out.ota
        go_wp2_with fail
        with_reducible refine ck.mono ?_
        rintro en w2 ⟨A, c, rfl, hrow, hb⟩
        have HB2 := Lib.hid (HO.out.below.trans (hb.mono HO.out.below.size))
        have HA2 := Lib.hid (HO.out.ota.later hb)
        have HBB := Lib.hid (HO.out.otb.later hb)
        have HROW := Lib.hid hrow
        clear hrow hb ck HO HL HN hn hn60 hk hkn hkn' hFk
        have ck := keys_v HBB.out
        go_wp2_with fail
        with_reducible refine ck.mono ?_
        rintro en w3 ⟨A2, c2, rfl, hrow, hb⟩
        have HR := Lib.hid (show LcI W p g q h F wr.heap.size A c w2.heap.size A2 c2 w3 from ⟨HA2.out.later hb, HBB.out.later hb, own_below HROW.out hb, hrow, HB2.out.trans (hb.mono HB2.out.size)⟩)
        have HOK := Lib.hid HA2.out.ok
        have HKL := Lib.hid (keysOf_len F)
        have hm1 : F.length ≤ 10000 := by have := HOK.out.len; omega
        clear hrow hb ck HB2 HA2 HBB HROW
        obtain ⟨m, hm⟩ : ∃ m, F.length = m := ⟨_, rfl⟩
        have HM := Lib.hid hm
        rw [hm] at hm1 ⊢
        clear hm
        generalize wr.heap.size = B1 at *
        generalize w2.heap.size = B2 at *
        go_wp2_with fail
        go_loopw [16] (fun i wr => ∃ k : Nat, i = .int .i64 k ∧ k ≤ m ∧ LcI W p g q h F B1 A c B2 A2 c2 wr) (fun i _ => m - (intOf i).toNat)
        case atStart => exact ⟨0, rfl, Nat.zero_le _, HR.out⟩
        case round =>
          obtain ⟨k, rfl, hk, hI⟩ := hrel
          have HI := Lib.hid hI
          clear hI HR
          by_cases hkm : k < m
          · have hkl : k < (keysOf F).length := by rw [HKL.out, HM.out]; exact hkm
            obtain ⟨x, hx⟩ : ∃ x, (keysOf F)[k]? = some x := ⟨_, List.getElem?_eq_getElem hkl⟩
            have hmem := List.mem_of_getElem? hx
            have hok : KyOk x := by
              obtain ⟨e, he, rfl⟩ := keysOf_mem hmem
              exact HOK.out.keys e he
            obtain ⟨rv, hrv⟩ : ∃ rv, geR F x = rv := ⟨_, rfl⟩
            have cg := fun w (h : OT W p g 100 F w) => get_v h x hok
            have cg2 := fun w (h : OT W q h 100 F w) => get_v h x hok
            rw [hrv] at cg cg2
            obtain ⟨va, ba⟩ := rv
            obtain ⟨g1, rfl, _, z0, z1, z2, _, _, _, hg1, hc⟩ := ky_cell HKL.out HI.out.r1 hx
            have hc1 : m ≤ c := by rw [← HM.out]; exact hc
            obtain ⟨g2, rfl, _, y0, y1, y2, _, _, _, hg2, hc'⟩ := ky_cell HKL.out HI.out.r2 hx
            have hc2 : m ≤ c2 := by rw [← HM.out]; exact hc'
            have hK0 : (0 : Int) ≤ (k : Int) := by omega
            have hK1 : (k : Int) < (m : Int) := by omega
            have cg1 := cg _ HI.out.ota
            have HX := Lib.hid hx
            have hneq : ∀ w, (binOp .neq 45 (.agg #[.string x.g, .string x.t, .int .i64 x.i]) (.agg #[.string x.g, .string x.t, .int .i64 x.i])).run Try.prog w = .ok (.bool false) w := fun w => by
              rw [key_neq x x w, beq_self, beq_self]
              simp
            have hgd := fun (a b : Operand) w => key_guard .neq a b #[.string x.g, .string x.t, .int .i64 x.i] #[.string x.g, .string x.t, .int .i64 x.i] w
            clear hx hmem hok hrv hc hc' hkl cg
            go_wp2_with fail
            with_reducible refine cg1.mono ?_
            rintro en w4 ⟨rfl, hb⟩
            have HI4 := Lib.hid (HI.out.later hb)
            clear hb cg1 z0 z1 z2 hg1 y0 y1 y2 hg2 HI
            obtain ⟨g3, hA3, _, y0, y1, y2, _, _, _, hg2, _⟩ := ky_cell HKL.out HI4.out.r2 HX.out
            injection hA3 with hA3
            injection hA3 with e1
            subst e1
            have cg3 := cg2 _ HI4.out.otb
            clear cg2
            go_wp2_with fail
            with_reducible refine cg3.mono ?_
            rintro en w5 ⟨rfl, hb⟩
            have HI5 := Lib.hid (HI4.out.later hb)
            clear hb cg3 y0 y1 y2 hg2 HI4
            obtain ⟨g3, hA3, _, y0, y1, y2, _, _, _, hg2, _⟩ := ky_cell HKL.out HI5.out.r2 HX.out
            injection hA3 with hA3
            injection hA3 with e1
            subst e1
            obtain ⟨g3, hA3, _, z0, z1, z2, _, _, _, hg1, _⟩ := ky_cell HKL.out HI5.out.r1 HX.out
            injection hA3 with hA3
            injection hA3 with e1
            subst e1
            go_wp2_with fail
            go_quiet (fail)
            have HI6 := Lib.hid (HI5.out.later (below_drewN (Below.refl _ w5) nq))
            go_wp2_with fail
            exact ⟨⟨k + 1, by go_num, hkm, HI6.out⟩, by simp [intOf]; omega⟩
          · have hkm' : ¬ (k : Int) < (m : Int) := by omega
            go_wp2_with fail
            with_reducible refine (cl _).mono ?_
            rintro en w6 ⟨rfl, hb⟩
            have HB6 := Lib.hid (HI.out.below.trans (hb.mono HI.out.below.size))
            clear hb
            go_wp2_with fail
            go_ret
            exact ⟨rfl, HB6.out⟩
end Go.Proofs.Ytlkhfgkgngcakaa
