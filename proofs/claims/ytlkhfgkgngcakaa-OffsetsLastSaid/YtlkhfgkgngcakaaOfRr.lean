/- offsets: the law OffsetsRise walks to true. No condition. -/
import Derived.Test.YtlkhfgkgngcakaaOfLv
import Derived.Test.YtlkhfgkgngcakaaOfOp
import Derived.Sort.Walk0
namespace Go.Proofs.Ytlkhfgkgngcakaa
open Go.RowKit Go.Maps Go.ChangeMaps Go.WideMaps Go.WideShapes Go.WideAt
set_option linter.unusedVariables false
theorem before_lt : ∀ a b : List UInt8, bytesBefore a b = true ↔ a < b
  | [], [] => by
    constructor
    · intro h; cases h
    · intro h; exact absurd h (List.not_lt_nil _)
  | [], b :: s => ⟨fun _ => List.nil_lt_cons _ _, fun _ => rfl⟩
  | a :: r, [] => by
    constructor
    · intro h; cases h
    · intro h; exact absurd h (List.not_lt_nil _)
  | a :: r, b :: s => by
    rw [show bytesBefore (a :: r) (b :: s) = (decide (a.toNat < b.toNat) || (a == b && bytesBefore r s)) from rfl, List.cons_lt_cons_iff, ← before_lt r s]
    simp only [Bool.or_eq_true, Bool.and_eq_true, decide_eq_true_eq, beq_iff_eq, UInt8.lt_iff_toNat_lt]
theorem less_before (a b : List UInt8) : Op.bytesLess a b = bytesBefore a b := by
  rw [Go.Proofs.bytesLess_eq, Bool.eq_iff_iff, decide_eq_true_eq, before_lt]
theorem cmp_before : ∀ a b : List UInt8, Lib.compareBytes a b < 0 ↔ bytesBefore a b = true
  | [], [] => by simp [Lib.compareBytes, bytesBefore]
  | [], b :: s => by simp [Lib.compareBytes, bytesBefore]
  | a :: r, [] => by simp [Lib.compareBytes, bytesBefore]
  | a :: r, b :: s => by
    rw [show bytesBefore (a :: r) (b :: s) = (decide (a.toNat < b.toNat) || (a == b && bytesBefore r s)) from rfl]
    unfold Lib.compareBytes
    simp only [Bool.or_eq_true, Bool.and_eq_true, decide_eq_true_eq, beq_iff_eq, UInt8.lt_iff_toNat_lt]
    by_cases h1 : a.toNat < b.toNat
    · rw [if_pos h1]; simp [h1]
    · rw [if_neg h1]
      by_cases h2 : b.toNat < a.toNat
      · rw [if_pos h2]
        constructor
        · intro h; omega
        · rintro (h | ⟨h, _⟩)
          · exact absurd h h1
          · subst h; omega
      · rw [if_neg h2, cmp_before r s]
        have e : a = b := UInt8.toNat_inj.1 (by omega)
        simp [e]
theorem less_of {a b : ByteArray} (h : Lib.compareBytes a.data.toList b.data.toList < 0) : Op.bytesLess a.toList b.toList = true := by
  rw [less_before, ByteArray.toList_eq, ByteArray.toList_eq]
  exact (cmp_before _ _).1 h
theorem less_self (a : ByteArray) : Op.bytesLess a.toList a.toList = false := by
  rw [less_before]; exact bytes_irrefl _
theorem beq_self (a : ByteArray) : (a.toList == a.toList) = true := by simp
/-- How two keys that rise stand to each other. -/
theorem cf_cases {x y : KY} (h : cfK x y < 0) : Op.bytesLess x.g.toList y.g.toList = true ∨ (x.g = y.g ∧ Op.bytesLess x.t.toList y.t.toList = true) ∨ (x.g = y.g ∧ x.t = y.t ∧ x.i < y.i) := by
  unfold cfK or3 at h
  split at h
  · rename_i e1
    have hg := ba_inj ((tri_bytes.zero _ _).1 e1)
    split at h
    · rename_i e2
      have ht := ba_inj ((tri_bytes.zero _ _).1 e2)
      refine .inr (.inr ⟨hg, ht, ?_⟩)
      unfold Lib.compareInt at h
      split at h
      · assumption
      · split at h <;> omega
    · exact .inr (.inl ⟨hg, less_of h⟩)
  · exact .inl (less_of h)
theorem keysOf_rise {w : World} {p g : Nat} {room : Int} {F : List KE} (h : OfIs w p g room F) : (keysOf F).Pairwise fun a b => cfK a b < 0 := by
  unfold keysOf
  refine sortK_rise (List.pairwise_map.2 (h.rise.imp ?_))
  intro a b hab e
  rw [e, bytes_irrefl] at hab
  cases hab
theorem gkey_in {room : Int} {F : List KE} (h : FOk room F) {x : KY} (hx : x ∈ keysOf F) : ∃ v, geR F x = (v, true) ∧ 0 ≤ v ∧ v ≤ 1099511627776 := by
  obtain ⟨e, he, rfl⟩ := keysOf_mem hx
  have hs : (ofK F (kyB e.1)).isSome = true := by
    unfold ofK
    rw [List.find?_isSome]
    exact ⟨e, he, by simp⟩
  obtain ⟨e', he'⟩ := Option.isSome_iff_exists.1 hs
  have hm := h.may e' (ofK_mem he').1
  unfold mayE at hm
  simp only [Bool.and_eq_true] at hm
  have hw := wit_of hm.2
  refine ⟨e'.2, ?_, hw⟩
  unfold geR
  rw [he']
theorem oo_cells {w w' : World} {A : Option Addr} {L : List OO} (h : OosIn w A L) (hb : Below w.heap.size w w') {k : Nat} {x : OO} (hk : L[k]? = some x) :
    ∃ b off, A = some ⟨b, off, none⟩ ∧ b < w'.heap.size ∧ OOk w' x ∧ w'.cell? ⟨b, off + k * 12 + 1, none⟩ = some (.string x.k.g) ∧ w'.cell? ⟨b, off + k * 12 + 2, none⟩ = some (.string x.k.t) ∧ w'.cell? ⟨b, off + k * 12 + 3, none⟩ = some (.int .i64 x.k.i) ∧ w'.cell? ⟨b, off + k * 12 + 4, none⟩ = some (.int .i64 x.at_) := by
  obtain ⟨b, off, hA, hl, hc, ho⟩ := h.at_ hb hk
  exact ⟨b, off, hA, hl, ho, (hc 1 (by decide)).trans rfl, (hc 2 (by decide)).trans rfl, (hc 3 (by decide)).trans rfl, (hc 4 (by decide)).trans rfl⟩
/-- While commits go on. -/
structure RsI (W : World) (p g : Nat) (w : World) : Prop where
  ot : ∃ F, OT W p g 100 F w
  below : Below W.heap.size W w
/-- While keys are told. -/
structure RkI (W : World) (p g : Nat) (F : List KE) (B : Nat) (A : Option Addr) (c : Nat) (w : World) : Prop where
  ot : OT W p g 100 F w
  row : w.ownsRow B 45 3 (.slice A F.length c) F.length (rowKy (keysOf F))
  below : Below W.heap.size W w
theorem RkI.later {W w w' : World} {p g B c : Nat} {F : List KE} {A : Option Addr} (h : RkI W p g F B A c w) (hb : Below w.heap.size w w') : RkI W p g F B A c w' := ⟨h.ot.later hb, own_below h.row hb, h.below.trans (hb.mono h.below.size)⟩
set_option maxHeartbeats 16000000 in
set_option maxRecDepth 100000 in
theorem offsetsRise_walk (A0 : Option Addr) (c0 : Nat) (L : List OO) (W : World) (hL : OosIn W A0 L) : Calls Try.prog 7 #[.slice A0 L.length c0] W (Yes W) := by
  have cl := fun w => live_c w
  unfold Yes at cl
  by_cases hn : (60 : Int) < (L.length : Int)
  · go_enter Try.func7, Try.ntmps7
    go_wp2_with fail
    with_reducible refine (cl _).mono ?_
    rintro en w1 ⟨rfl, hb⟩
    go_wp2_with fail
    go_ret
    exact ⟨rfl, hb⟩
  · have nw := new_v W W 100 (by omega) (by omega) (Nat.le_refl _)
    obtain ⟨n, hnl⟩ : ∃ n, L.length = n := ⟨_, rfl⟩
    have HN := Lib.hid hnl
    have HL := Lib.hid hL
    rw [hnl] at hn ⊢
    have hn60 : n ≤ 60 := by omega
    clear hnl hL
    go_enter Try.func7, Try.ntmps7
    go_wp2_with fail
    with_reducible refine nw.mono ?_
    rintro en w1 ⟨p, g, rfl, hot, _, _, _, _, hb⟩
    have HS := Lib.hid (show RsI W p g w1 from ⟨⟨[], hot⟩, hb⟩)
    clear hot hb nw
    go_wp2_with fail
    go_loopw [5] (fun i wr => ∃ k : Nat, i = .int .i64 k ∧ k ≤ n ∧ RsI W p g wr) (fun i _ => n - (intOf i).toNat)
    case atStart => exact ⟨0, rfl, Nat.zero_le _, HS.out⟩
    case round =>
      obtain ⟨k, rfl, hk, hI⟩ := hrel
      obtain ⟨⟨F, hot⟩, hbl⟩ := hI
      have HO := Lib.hid hot
      have HB := Lib.hid hbl
      clear hot hbl HS
      by_cases hkn : k < n
      · have hkl : k < L.length := by rw [HN.out]; exact hkn
        obtain ⟨x, hx⟩ : ∃ x, L[k]? = some x := ⟨_, List.getElem?_eq_getElem hkl⟩
        obtain ⟨b, off, rfl, hbl, hok, z1, z2, z3, z4⟩ := oo_cells HL.out HB.out hx
        have hK0 : (0 : Int) ≤ (k : Int) := by omega
        have hK1 : (k : Int) < (n : Int) := by omega
        have cm := fun w (h : OT W p g 100 F w) => commit_v h x.k x.at_
        have HX := Lib.hid hx
        clear hx hkl hok
        go_wp2_with fail
        have hS0 : wr.drew.cell? ⟨b, off + k * 12 + 1, none⟩ = some (.string x.k.g) ∧ wr.drew.cell? ⟨b, off + k * 12 + 2, none⟩ = some (.string x.k.t) ∧ wr.drew.cell? ⟨b, off + k * 12 + 3, none⟩ = some (.int .i64 x.k.i) ∧ wr.drew.cell? ⟨b, off + k * 12 + 4, none⟩ = some (.int .i64 x.at_) := ⟨z1, z2, z3, z4⟩
        have HD := Lib.hid (HO.out.later (Below.refl _ _).drew)
        have cm1 := cm _ HD.out
        refine wp_region_held_drew (S := (fun w => w.cell? ⟨b, off + k * 12 + 1, none⟩ = some (.string x.k.g) ∧ w.cell? ⟨b, off + k * 12 + 2, none⟩ = some (.string x.k.t) ∧ w.cell? ⟨b, off + k * 12 + 3, none⟩ = some (.int .i64 x.k.i) ∧ w.cell? ⟨b, off + k * 12 + 4, none⟩ = some (.int .i64 x.at_))) (by kernel_rfl) hS0 (fun hHeld => ?_)
        refine takeW (i := 0) (v := ?v1) rfl (by kernel_rfl) (by kernel_rfl) (by kernel_rfl) (fun _ _ _ h => h) (by kernel_rfl) hHeld ?hy1 ?rest1
        case hy1 => (intro w hSw; (try dsimp only at hSw); go_simp; (try with_reducible rfl))
        try simp only [Act.put, List.setIfInBounds_toArray, List.set_cons_zero, List.set_cons_succ]
        refine takeW (i := 1) (v := ?v2) rfl (by kernel_rfl) (by kernel_rfl) (by kernel_rfl) (fun _ _ _ h => h) (by kernel_rfl) hHeld ?hy2 ?rest2
        case hy2 => (intro w hSw; (try dsimp only at hSw); go_simp; (try with_reducible rfl))
        try simp only [Act.put, List.setIfInBounds_toArray, List.set_cons_zero, List.set_cons_succ]
        refine takeW (i := 2) (v := ?v3) rfl (by kernel_rfl) (by kernel_rfl) (by kernel_rfl) (fun _ _ _ h => h) (by kernel_rfl) hHeld ?hy3 ?rest3
        case hy3 => (intro w hSw; (try dsimp only at hSw); go_simp; (try with_reducible rfl))
        try simp only [Act.put, List.setIfInBounds_toArray, List.set_cons_zero, List.set_cons_succ]
        refine takeW (i := 3) (v := ?v4) rfl (by kernel_rfl) (by kernel_rfl) (by kernel_rfl) (fun _ _ _ h => h) (by kernel_rfl) hHeld ?hy4 ?rest4
        case hy4 => (intro w hSw; (try dsimp only at hSw); go_simp; (try with_reducible rfl))
        try simp only [Act.put, List.setIfInBounds_toArray, List.set_cons_zero, List.set_cons_succ]
        refine takeW (i := 4) (v := ?v5) rfl (by kernel_rfl) (by kernel_rfl) (by kernel_rfl) (fun _ _ _ h => h) (by kernel_rfl) hHeld ?hy5 ?rest5
        case hy5 => (intro w hSw; (try dsimp only at hSw); go_simp; (try with_reducible rfl))
        try simp only [Act.put, List.setIfInBounds_toArray, List.set_cons_zero, List.set_cons_succ]
        refine takeW (i := 5) (v := ?v6) rfl (by kernel_rfl) (by kernel_rfl) (by kernel_rfl) (fun _ _ _ h => h) (by kernel_rfl) hHeld ?hy6 ?rest6
        case hy6 => (intro w hSw; (try dsimp only at hSw); go_simp; (try with_reducible rfl))
        try simp only [Act.put, List.setIfInBounds_toArray, List.set_cons_zero, List.set_cons_succ]
        refine takeW (i := 6) (v := ?v7) rfl (by kernel_rfl) (by kernel_rfl) (by kernel_rfl) (fun _ _ _ h => h) (by kernel_rfl) hHeld ?hy7 ?rest7
        case hy7 => (intro w hSw; (try dsimp only at hSw); go_simp; (try with_reducible rfl))
        try simp only [Act.put, List.setIfInBounds_toArray, List.set_cons_zero, List.set_cons_succ]
        refine takeW (i := 7) (v := ?v8) rfl (by kernel_rfl) (by kernel_rfl) (by kernel_rfl) (fun _ _ _ h => h) (by kernel_rfl) hHeld ?hy8 ?rest8
        case hy8 => (intro w hSw; (try dsimp only at hSw); go_simp; (try with_reducible rfl))
        try simp only [Act.put, List.setIfInBounds_toArray, List.set_cons_zero, List.set_cons_succ]
        refine takeW (i := 8) (v := ?v9) rfl (by kernel_rfl) (by kernel_rfl) (by kernel_rfl) (fun _ _ _ h => h) (by kernel_rfl) hHeld ?hy9 ?rest9
        case hy9 => (intro w hSw; (try dsimp only at hSw); go_simp; (try with_reducible rfl))
        try simp only [Act.put, List.setIfInBounds_toArray, List.set_cons_zero, List.set_cons_succ]
        refine takeW (i := 9) (v := ?v10) rfl (by kernel_rfl) (by kernel_rfl) (by kernel_rfl) (fun _ _ _ h => h) (by kernel_rfl) hHeld ?hy10 ?rest10
        case hy10 => (intro w hSw; (try dsimp only at hSw); go_simp; (try with_reducible rfl))
        try simp only [Act.put, List.setIfInBounds_toArray, List.set_cons_zero, List.set_cons_succ]
        refine takeW (i := 10) (v := ?v11) rfl (by kernel_rfl) (by kernel_rfl) (by kernel_rfl) (fun _ _ _ h => h) (by kernel_rfl) hHeld ?hy11 ?rest11
        case hy11 => (intro w hSw; (try dsimp only at hSw); go_simp; (try with_reducible rfl))
        try simp only [Act.put, List.setIfInBounds_toArray, List.set_cons_zero, List.set_cons_succ]
        refine takeW (i := 11) (v := ?v12) rfl (by kernel_rfl) (by kernel_rfl) (by kernel_rfl) (fun _ _ _ h => h) (by kernel_rfl) hHeld ?hy12 ?rest12
        case hy12 => (intro w hSw; (try dsimp only at hSw); go_simp; (try with_reducible rfl))
        try simp only [Act.put, List.setIfInBounds_toArray, List.set_cons_zero, List.set_cons_succ]
        refine takeW (i := 12) (v := ?v13) rfl (by kernel_rfl) (by kernel_rfl) (by kernel_rfl) (fun _ _ _ h => h) (by kernel_rfl) hHeld ?hy13 ?rest13
        case hy13 => (intro w hSw; (try dsimp only at hSw); go_simp; (try with_reducible rfl))
        try simp only [Act.put, List.setIfInBounds_toArray, List.set_cons_zero, List.set_cons_succ]
        refine takeW (i := 13) (v := ?v14) rfl (by kernel_rfl) (by kernel_rfl) (by kernel_rfl) (fun _ _ _ h => h) (by kernel_rfl) hHeld ?hy14 ?rest14
        case hy14 => (intro w hSw; (try dsimp only at hSw); go_simp; (try with_reducible rfl))
        try simp only [Act.put, List.setIfInBounds_toArray, List.set_cons_zero, List.set_cons_succ]
        refine takeW (i := 14) (v := ?v15) rfl (by kernel_rfl) (by kernel_rfl) (by kernel_rfl) (fun _ _ _ h => h) (by kernel_rfl) hHeld ?hy15 ?rest15
        case hy15 => (intro w hSw; (try dsimp only at hSw); go_simp; (try with_reducible rfl))
        try simp only [Act.put, List.setIfInBounds_toArray, List.set_cons_zero, List.set_cons_succ]
        refine takeW (i := 15) (v := ?v16) rfl (by kernel_rfl) (by kernel_rfl) (by kernel_rfl) (fun _ _ _ h => h) (by kernel_rfl) hHeld ?hy16 ?rest16
        case hy16 => (intro w hSw; (try dsimp only at hSw); go_simp; (try with_reducible rfl))
        try simp only [Act.put, List.setIfInBounds_toArray, List.set_cons_zero, List.set_cons_succ]
        refine takeW (i := 16) (v := ?v17) rfl (by kernel_rfl) (by kernel_rfl) (by kernel_rfl) (fun _ _ _ h => h) (by kernel_rfl) hHeld ?hy17 ?rest17
        case hy17 => (intro w hSw; (try dsimp only at hSw); go_simp; (try with_reducible rfl))
        try simp only [Act.put, List.setIfInBounds_toArray, List.set_cons_zero, List.set_cons_succ]
        refine wpAnyH_ready (rs := [17]) (by kernel_rfl) (by simp) ?_
        refine consL rfl (by kernel_rfl) (fun K hK => ?_) AllReadyH.nil
        go_simp
        with_reducible refine cm1.mono ?_
        rintro en w4 ⟨rfl, hw⟩
        have HW := Lib.hid hw
        have HW2 : Hid (Wr W p g 100 (coS 100 F x.k x.at_) wr w4) := Lib.hid ⟨hw.ot, (Off.of_below (fun i => i = g) (Below.refl wr.heap.size wr).drew).trans hw.off (fun _ _ e => e)⟩
        clear hw cm1
        obtain ⟨b2, off2, hA2, hbl2, hok2, y1, y2, y3, y4⟩ := oo_cells HL.out (HO.out.below HW2.out HB.out) HX.out
        injection hA2 with hA2
        injection hA2 with e1 e2 _
        subst e1 e2
        refine hK.out _ _ (⟨y1, y2, y3, y4⟩) (fun hHeld => ?_)
        clear hK K
        try simp only [Act.put, List.setIfInBounds_toArray, List.set_cons_zero, List.set_cons_succ]
        refine wpAnyH_done (by kernel_rfl) ?_ _
        go_wp2_with fail
        exact ⟨⟨k + 1, by go_num, hkn, ⟨_, HW.out.ot⟩, HO.out.below HW2.out HB.out⟩, by simp [intOf]; omega⟩
      · have hkn' : ¬ (k : Int) < (n : Int) := by omega
        have ck := keys_v HO.out
        go_wp2_with fail
        with_reducible refine ck.mono ?_
        rintro en w2 ⟨A, c, rfl, hrow, hb⟩
        have HR := Lib.hid (show RkI W p g F wr.heap.size A c w2 from ⟨HO.out.later hb, hrow, HB.out.trans (hb.mono HB.out.size)⟩)
        have HRISE := Lib.hid (keysOf_rise HO.out.is)
        have HOK := Lib.hid HO.out.ok
        have HKL := Lib.hid (keysOf_len F)
        have hm1 : F.length ≤ 10000 := by have := HOK.out.len; omega
        clear hrow hb ck HO HB HL HN hn hn60 hk hkn hkn'
        obtain ⟨m, hm⟩ : ∃ m, F.length = m := ⟨_, rfl⟩
        have HM := Lib.hid hm
        rw [hm] at hm1 ⊢
        clear hm
        generalize wr.heap.size = BB at *
        go_wp2_with fail
        go_loopw [7] (fun i wr => ∃ k : Nat, i = .int .i64 k ∧ k ≤ m ∧ RkI W p g F BB A c wr) (fun i _ => m - (intOf i).toNat)
        case atStart => exact ⟨0, rfl, Nat.zero_le _, HR.out⟩
        case round =>
          obtain ⟨k, rfl, hk, hI⟩ := hrel
          have HI := Lib.hid hI
          clear hI HR
          by_cases hkm : k < m
          · have hkl : k < (keysOf F).length := by rw [HKL.out, HM.out]; exact hkm
            obtain ⟨x, hx⟩ : ∃ x, (keysOf F)[k]? = some x := ⟨_, List.getElem?_eq_getElem hkl⟩
            have hmem := List.mem_of_getElem? hx
            obtain ⟨v, hv, hv0, hv1⟩ := gkey_in HOK.out hmem
            have hok : KyOk x := by
              obtain ⟨e, he, rfl⟩ := keysOf_mem hmem
              exact HOK.out.keys e he
            have cg := fun w (h : OT W p g 100 F w) => get_v h x hok
            rw [hv] at cg
            obtain ⟨g', rfl, _, z0, z1, z2, _, _, _, hg, hc⟩ := ky_cell HKL.out HI.out.row hx
            have hc' : m ≤ c := by rw [← HM.out]; exact hc
            have hK0 : (0 : Int) ≤ (k : Int) := by omega
            have hK1 : (k : Int) < (m : Int) := by omega
            have cg1 := cg _ HI.out.ot
            have HX := Lib.hid hx
            by_cases hk0 : k = 0
            · subst hk0
              simp only [Nat.zero_mul, Nat.zero_add] at z0 z1 z2
              clear hx hmem hv hok cg hc hkl
              go_wp2_with fail
              with_reducible refine cg1.mono ?_
              rintro en w3 ⟨rfl, hb⟩
              have HI3 := Lib.hid (HI.out.later hb)
              clear hb cg1
              go_wp2_with fail
              exact ⟨⟨1, by first | rfl | go_num, hkm, HI3.out⟩, by simp [intOf]; omega⟩
            · obtain ⟨j, hj⟩ : ∃ j, k = j + 1 := ⟨k - 1, by omega⟩
              have hj1 : (k : Int) - 1 = (j : Int) := by omega
              have hjm : (j : Int) < (m : Int) := by omega
              have hj0 : (0 : Int) ≤ (j : Int) := by omega
              have hk0' : ¬ (k : Int) = 0 := by omega
              obtain ⟨y, hy⟩ : ∃ y, (keysOf F)[j]? = some y := ⟨_, List.getElem?_eq_getElem (by omega)⟩
              have hcf : cfK y x < 0 := by
                obtain ⟨h1, h2⟩ := List.getElem?_eq_some_iff.1 hx
                obtain ⟨h3, h4⟩ := List.getElem?_eq_some_iff.1 hy
                have := List.pairwise_iff_getElem.1 HRISE.out j k h3 h1 (by omega)
                rwa [h2, h4] at this
              have HY := Lib.hid hy
              have HJ := Lib.hid hj
              have HCF := Lib.hid (cf_cases hcf)
              clear hx hy hmem hv hok cg hc hkl hk0 hj hcf
              go_wp2_with fail
              with_reducible refine cg1.mono ?_
              rintro en w3 ⟨rfl, hb⟩
              have HI3 := Lib.hid (HI.out.later hb)
              clear hb cg1 z0 z1 z2 hg
              obtain ⟨g2, hA2, _, z0, z1, z2, _, _, _, hg, _⟩ := ky_cell HKL.out HI3.out.row HX.out
              injection hA2 with hA2
              injection hA2 with e1
              subst e1
              obtain ⟨g3, hA3, _, x0, x1, x2, _, _, _, _, _⟩ := ky_cell HKL.out HI3.out.row HY.out
              injection hA3 with hA3
              injection hA3 with e1
              subst e1
              have hb1 := Box.new w3 45 #[.string y.g, .string y.t, .int .i64 y.i]
              have hb2 := Box.new (w3.alloc (.cells #[.string y.g, .string y.t, .int .i64 y.i] 45)) 45 #[.string x.g, .string x.t, .int .i64 x.i]
              rw [World.size_alloc] at hb2
              have hbA := (Below.refl w3.heap.size w3).alloc (Nat.le_refl _) (.cells #[.string y.g, .string y.t, .int .i64 y.i] 45)
              have hbB := (Below.refl (w3.alloc (.cells #[.string y.g, .string y.t, .int .i64 y.i] 45)).heap.size (w3.alloc (.cells #[.string y.g, .string y.t, .int .i64 y.i] 45))).alloc (Nat.le_refl _) (.cells #[.string x.g, .string x.t, .int .i64 x.i] 45)
              have HI4 := Lib.hid ((HI3.out.later hbA).later hbB)
              have hb1' := hb1.later hbB
              have u0 := (hbA.cell (p := ⟨g', k * 3, none⟩) hg).trans z0
              have u1 := (hbA.cell (p := ⟨g', k * 3 + 1, none⟩) hg).trans z1
              have u2 := (hbA.cell (p := ⟨g', k * 3 + 2, none⟩) hg).trans z2
              obtain ⟨p0, p1, p2, pl, _, _, _⟩ := ky3 hb1'
              obtain ⟨q0, q1, q2, ql, _, _, _⟩ := ky3 hb2
              clear hb1 hb2 hbA hbB hb1' HI z0 z1 z2
              rcases HCF.out with h1 | ⟨h1, h2⟩ | ⟨h1, h2, h3⟩
              · clear HCF
                go_wp2_with fail
                exact ⟨⟨k + 1, by go_num, hkm, HI4.out⟩, by simp [intOf]; omega⟩
              · have s1 : Op.bytesLess y.g.toList x.g.toList = false := by rw [h1]; exact less_self _
                have s2 : (y.g.toList == x.g.toList) = true := by rw [h1]; exact beq_self _
                clear HCF h1
                go_wp2_with fail
                exact ⟨⟨k + 1, by go_num, hkm, HI4.out⟩, by simp [intOf]; omega⟩
              · have s1 : Op.bytesLess y.g.toList x.g.toList = false := by rw [h1]; exact less_self _
                have s2 : (y.g.toList == x.g.toList) = true := by rw [h1]; exact beq_self _
                have s3 : Op.bytesLess y.t.toList x.t.toList = false := by rw [h2]; exact less_self _
                have s4 : (y.t.toList == x.t.toList) = true := by rw [h2]; exact beq_self _
                clear HCF h1 h2
                go_wp2_with fail
                exact ⟨⟨k + 1, by go_num, hkm, HI4.out⟩, by simp [intOf]; omega⟩
          · have hkm' : ¬ (k : Int) < (m : Int) := by omega
            go_wp2_with fail
            with_reducible refine (cl _).mono ?_
            rintro en w3 ⟨rfl, hb⟩
            have HB3 := Lib.hid (HI.out.below.trans (hb.mono HI.out.below.size))
            clear hb
            go_wp2_with fail
            go_ret
            exact ⟨rfl, HB3.out⟩
end Go.Proofs.Ytlkhfgkgngcakaa
