/- topic: the reader's table, by a contract. No condition. -/
import Derived.Test.YtnpfakjgocnkbaaTpGw
import Derived.Test.YtnpfakjgocnkbaaTakes
namespace Go.Proofs.Ytnpfakjgocnkbaa
open Go.RowKit
set_option linter.unusedVariables false
def GotTb (W : World) (b : Nat) (s : ByteArray) (en : Ending) (w' : World) : Prop :=
  en = .returned (dp W.heap.size) ∧ ∃ m q, TbIs w' W.heap.size m (tbT s).1 (tbT s).2.1 ∧ Box w' b 64 (rdC s q (paT s)) ∧ (∀ g, m = some g → W.heap.size ≤ g) ∧ Off (fun k => k = b) W w'
/-- Between two rounds. -/
structure TbJ (W : World) (b : Nat) (s : ByteArray) (n : Int) (t0 : RS) (k : Nat) (a : ByteArray) (w : World) : Prop where
  ex : ∃ (m : Option Nat) (F : List TE) (q e : Int), TbIs w W.heap.size m n F ∧ Box w b 64 (rdC s q e) ∧ itT s n t0 k = (F, a, q, e) ∧ F.length ≤ k ∧ (∀ g, m = some g → W.heap.size ≤ g)
  off : Off (fun k => k = b) W w
theorem stT_of {s : ByteArray} {n : Int} {F : List TE} {a : ByteArray} {q e : Int} {r1 : ByteArray × Int × Int} {r2 : (Int × Int) × Int × Int} (h1 : naT s a.data.toList q e = r1) (h2 : enT s (n - 1) r1.2.1 r1.2.2 = r2) : stT s n (F, a, q, e) = (putT ⟨r1.1.data.toList, r2.1.1, r2.1.2⟩ F, r1.1, r2.2) := by
  subst h1; subst h2; rfl
theorem takeG_size (s : ByteArray) (q m : Int) : (takeG s q m).1.size ≤ s.size := by
  unfold takeG
  split
  · exact Nat.zero_le _
  · split
    · exact Nat.zero_le _
    · split
      · exact Nat.zero_le _
      · simp only [ByteArray.size_extract]
        omega
theorem naT_size (s : ByteArray) (a : List UInt8) (q e : Int) : (naT s a q e).1.size ≤ s.size := by
  unfold naT
  split
  · exact takeG_size s q 100
  · exact Nat.zero_le _
set_option maxHeartbeats 8000000 in
set_option maxRecDepth 100000 in
theorem table_c (b : Nat) (s : ByteArray) (W : World) (h : Box W b 64 (rdC s 0 0)) (hs : s.size ≤ 1152921504606846976) :
    Calls Try.prog 26 #[.pointer (some ⟨b, 0, none⟩)] W (GotTb W b s) := by
  unfold GotTb paT tbT dp
  have k1 := fun w hw => tnum_c b s 0 0 0 1073741824 w hw hs
  have hn1 := nuT_in s 0 1073741824 0 0
  generalize nuT s 0 1073741824 0 0 = r1 at *
  have k2 := fun w hw => tnum_c b s r1.2.1 r1.2.2 0 20 w hw hs
  have hn2 := nuT_in s 0 20 r1.2.1 r1.2.2
  generalize nuT s 0 20 r1.2.1 r1.2.2 = r2 at *
  obtain ⟨n, p1, e1⟩ := r1
  obtain ⟨c, p2, e2⟩ := r2
  simp only at hn1 hn2 k1 k2 ⊢
  have hnb : 0 ≤ n ∧ n ≤ 1073741824 := by omega
  obtain ⟨N, rfl⟩ : ∃ N : Nat, c = N := ⟨c.toNat, by omega⟩
  rw [Int.toNat_natCast]
  have hN : N ≤ 20 := by omega
  clear hn1 hn2
  have hlt := h.lt
  have hB : Below W.heap.size W (W.alloc (.cells #[.int .i64 0, .map none] 56)) := (Below.refl _ _).alloc (Nat.le_refl _) _
  have H0 := Lib.hid (h.later hB)
  have HN0 := Lib.hid (new_is W)
  have HB := Lib.hid (Off.of_below (fun k => k = b) hB)
  have cn := new_c W
  have hb1 : b ≠ W.heap.size := Nat.ne_of_lt hlt
  unfold dp at cn
  clear h hB
  go_enter Try.func26, Try.ntmps26
  go_wp2_with fail
  with_reducible refine cn.mono ?_
  rintro en w0 ⟨rfl, rfl⟩
  generalize W.alloc (.cells #[.int .i64 0, .map none] 56) = w0 at *
  go_wp2_with fail
  with_reducible refine (k1 _ H0.out).mono ?_
  rintro en w1 ⟨rfl, hx1, ho1⟩
  have hT1 := HN0.out.off ho1 (fun e => hb1 e.symm) (fun k hk => by cases hk)
  obtain ⟨t0, _, tl⟩ := hT1.cells
  have f0 := hT1.box.frozen 0
  have hoS : Off (fun k => k = W.heap.size) w1 (w1.setCell ⟨W.heap.size, 0, none⟩ (.int .i64 n)) := Off.one w1 ⟨W.heap.size, 0, none⟩ _
  have HT1 : Hid (TbIs (w1.setCell ⟨W.heap.size, 0, none⟩ (.int .i64 n)) W.heap.size none n []) := Lib.hid ⟨hT1.box.set 0 _, .inl ⟨rfl, rfl⟩, .nil⟩
  have HX1 := Lib.hid (hx1.off hoS hb1)
  have HO1 := Lib.hid ((HB.out.trans ho1 (fun i hi h => h)).set (p := ⟨W.heap.size, 0, none⟩) (.inr (Nat.le_refl _)) (.int .i64 n))
  clear hT1 hoS hx1 ho1 HN0 HB cn k1 H0
  go_wp2_with fail
  with_reducible refine (k2 _ HX1.out).mono ?_
  rintro en w2 ⟨rfl, hx2, ho2⟩
  have HT2 := Lib.hid (HT1.out.off ho2 (fun e => hb1 e.symm) (fun k hk => by cases hk))
  have HO2 := Lib.hid (HO1.out.trans ho2 (fun i hi h => h))
  have HX2 := Lib.hid hx2
  have HJ : Hid (TbJ W b s n ([], ⟨#[]⟩, p2, e2) 0 ⟨#[]⟩ w2) := Lib.hid ⟨⟨none, [], p2, e2, HT2.out, HX2.out, rfl, Nat.le_refl _, fun g hg => by cases hg⟩, HO2.out⟩
  clear hx2 ho2 HT1 HX1 HO1 k2 t0 f0 HT2 HO2 HX2
  go_wp2_with fail
  go_loopw [4, 5, 14] (fun a _ j wr => ∃ (k : Nat) (a' : ByteArray), a = .string a' ∧ j = .int .i64 k ∧ k ≤ N ∧ TbJ W b s n ([], ⟨#[]⟩, p2, e2) k a' wr) (fun _ _ j _ => N - (intOf j).toNat)
  case atStart => exact ⟨0, _, rfl, rfl, Nat.zero_le _, HJ.out⟩
  case round =>
    obtain ⟨k, a, rfl, rfl, hk, hJ⟩ := hrel
    have HK := Lib.hid hJ
    clear hJ HJ
    by_cases hkN : k < N
    · have hki : (k : Int) < (N : Int) := by omega
      obtain ⟨m, F, q, e, hT, hX, hit, hFl, hmb⟩ := HK.out.ex
      obtain ⟨r1, h1⟩ : ∃ r, naT s a.data.toList q e = r := ⟨_, rfl⟩
      obtain ⟨r2, h2⟩ : ∃ r, enT s (n - 1) r1.2.1 r1.2.2 = r := ⟨_, rfl⟩
      have hst := stT_of (F := F) h1 h2
      have c1 := tname_c b s a q e wr hX hs
      have c2 := fun w hw => tentry_c b s (n - 1) r1.2.1 r1.2.2 w hw hs
      rw [h1] at c1
      rw [h2] at c2
      have HST : Hid (itT s n ([], ⟨#[]⟩, p2, e2) (k + 1) = (putT ⟨r1.1.data.toList, r2.1.1, r2.1.2⟩ F, r1.1, r2.2)) := Lib.hid (by
        show stT s n (itT s n ([], ⟨#[]⟩, p2, e2) k) = _
        rw [hit, hst])
      have HTT := Lib.hid hT
      have HMB := Lib.hid hmb
      have hnsz : r1.1.size ≤ maxLen := by
        rw [← h1]
        have := naT_size s a.data.toList q e
        unfold maxLen
        omega
      clear hT hX hit hst h1 h2 hmb
      obtain ⟨nm, q1, er1⟩ := r1
      obtain ⟨⟨id, pa⟩, q2, er2⟩ := r2
      simp only at c1 c2 hnsz
      go_wp2_with fail
      with_reducible refine c1.mono ?_
      rintro en w3 ⟨rfl, hx3, ho3⟩
      have hT3 := HTT.out.off ho3 (fun e => hb1 e.symm) (fun k hk e => by have := HMB.out k hk; omega)
      obtain ⟨t0, _, tl⟩ := hT3.cells
      have HT3 := Lib.hid hT3
      have HX3 := Lib.hid hx3
      have HO3 := Lib.hid (HK.out.off.trans ho3 (fun i hi h => h))
      have hw1 : IntKind.i64.wrap (n - 1) = n - 1 := by rw [IntKind.wrap_i64]; omega
      clear hT3 hx3 ho3 c1
      go_wp2_with fail
      with_reducible refine (c2 _ HX3.out).mono ?_
      rintro en w4 ⟨rfl, hx4, ho4⟩
      have hT4 := HT3.out.off ho4 (fun e => hb1 e.symm) (fun k hk e => by have := HMB.out k hk; omega)
      have HX4 := Lib.hid hx4
      have HO4 := Lib.hid (HO3.out.trans ho4 (fun i hi h => h))
      have cp := tput_c W.heap.size m n F nm ⟨nm.data.toList, id, pa⟩ w4 hT4 rfl hnsz (by omega)
      unfold dp at cp
      simp only at cp
      clear hT4 hx4 ho4 c2 hw1
      go_wp2_with fail
      with_reducible refine cp.mono ?_
      rintro en w5 ⟨rfl, g, hT5, ho5, hg5⟩
      have hz4 := HO4.out.size
      have HX5 : Hid (Box w5 b 64 (rdC s q2 er2)) := Lib.hid (HX4.out.off ho5 (fun h => h.elim hb1 (fun h => by have := HMB.out b h; omega)))
      have HJ5 : Hid (TbJ W b s n ([], ⟨#[]⟩, p2, e2) (k + 1) nm w5) := Lib.hid ⟨⟨some g, _, q2, er2, hT5, HX5.out, HST.out, Nat.le_trans (putT_len _ _) (by omega), fun g' hg' => by
        cases hg'
        rcases hg5 with h | h
        · exact HMB.out g h
        · omega⟩, HO4.out.trans ho5 (fun i hi h => by
          rcases h with h | h
          · omega
          · have := HMB.out i h; omega)⟩
      clear hT5 ho5 cp
      go_wp2_with fail
      go_roundw
      case rel => exact ⟨k + 1, nm, rfl, by go_num, hkN, HJ5.out⟩
      case measure => simp [intOf]; omega
    · have hke : k = N := by omega
      subst hke
      obtain ⟨m, F, q, e, hT, hX, hit, hFl, hmb⟩ := HK.out.ex
      have HIT := Lib.hid hit
      have HT := Lib.hid hT
      have HX := Lib.hid hX
      have HMB := Lib.hid hmb
      have HO := Lib.hid HK.out.off
      obtain ⟨x0, x1, _, _, _⟩ := hX.rd0
      have hlw := hX.lt
      have hS := And.intro x0 (And.intro x1 hlw)
      clear x0 x1 hT hmb hit HK
      by_cases hq : q = (s.size : Int)
      · have hq1 : (q == (s.size : Int)) = true := by rw [hq]; exact beq_self_eq_true _
        have ct := twice_c W.heap.size m n F wr.drew (HT.out.later (Below.refl _ wr).drew) (by omega)
        have HD : Hid (decide (q = (s.size : Int)) = true) := Lib.hid (decide_eq_true hq)
        unfold dp Good at ct
        obtain ⟨tw, htw⟩ : ∃ tw, twB F = tw := ⟨_, rfl⟩
        rw [htw] at ct
        have HTW := Lib.hid htw.symm
        clear htw
        have cd := fun w hw => demand_c b s q e (!tw) w hw
        clear hX hq
        go_wp2_with fail
        go_region_held3 (fun w => w.cell? ⟨b, 0, none⟩ = some (.string s) ∧ w.cell? ⟨b, 1, none⟩ = some (.int .i64 q) ∧ b < w.heap.size) (first | exact hS | exact r2_later hS hbA | exact ⟨hx5.rd0.1, hx5.rd0.2.1, hx5.lt⟩)
          (first | ((with_reducible refine ct.mono ?_); rintro en w4 ⟨rfl, hw4⟩; have hbA : Below wr.heap.size wr w4 := (Below.refl _ wr).drew.trans (hw4.mono (Nat.le_refl _)))
                 | ((with_reducible refine (cd _ (HX.out.later hbA)).mono ?_); rintro en w5 ⟨rfl, hx5, ho5⟩))
        all_goals
          go_wp2_with fail
          go_ret
          refine ⟨rfl, m, q, ?_, ?_, HMB.out, ?_⟩
          · rw [HIT.out]
            exact (HT.out.later hbA).off ho5 (fun e => hb1 e.symm) (fun k hk e => by have := HMB.out k hk; omega)
          · rw [HIT.out]
            simp only
            rw [HD.out, ← HTW.out, Bool.true_and]
            exact hx5
          · exact (HO.out.later hbA).trans ho5 (fun i hi h => h)
      · have hq1 : (q == (s.size : Int)) = false := by simp [hq]
        have HD : Hid (decide (q = (s.size : Int)) = false) := Lib.hid (decide_eq_false hq)
        have cd := demand_c b s q e false wr.drew (HX.out.drew)
        clear hX hq
        go_wp2_with fail
        refine wp_region_held_drew (S := (fun w => w.cell? ⟨b, 0, none⟩ = some (.string s) ∧ w.cell? ⟨b, 1, none⟩ = some (.int .i64 q) ∧ b < w.heap.size)) (by kernel_rfl) hS (fun hHeld => ?_)
        refine takeW (i := 0) (v := ?v1) rfl (by kernel_rfl) (by kernel_rfl) (by kernel_rfl) (fun _ _ _ h => h) (by kernel_rfl) hHeld ?hy1 ?rest1
        case hy1 => (intro w hSw; (try dsimp only at hSw); go_simp; (try with_reducible rfl))
        try simp only [Act.put, List.setIfInBounds_toArray, List.set_cons_zero, List.set_cons_succ]
        refine takeW (i := 1) (v := ?v2) rfl (by kernel_rfl) (by kernel_rfl) (by kernel_rfl) (fun _ _ _ h => h) (by kernel_rfl) hHeld ?hy2 ?rest2
        case hy2 => (intro w hSw; (try dsimp only at hSw); go_simp; (try with_reducible rfl))
        try simp only [Act.put, List.setIfInBounds_toArray, List.set_cons_zero, List.set_cons_succ]
        refine takeW (i := 2) (v := ?v3) rfl (by kernel_rfl) (by kernel_rfl) (by kernel_rfl) (fun _ _ _ h => h) (by kernel_rfl) hHeld ?hy3 ?rest3
        case hy3 => (intro w hSw; (try dsimp only at hSw); go_simp; (try with_reducible rfl))
        try simp only [Act.put, List.setIfInBounds_toArray, List.set_cons_zero, List.set_cons_succ]
        refine takeW (i := 3) (v := ?v4) rfl (by kernel_rfl) (by kernel_rfl) (by kernel_rfl) (fun _ _ _ h => h) (by kernel_rfl) hHeld ?hy4 ?rest4
        case hy4 => (intro w hSw; (try dsimp only at hSw); go_simp; (try with_reducible rfl))
        try simp only [Act.put, List.setIfInBounds_toArray, List.set_cons_zero, List.set_cons_succ]
        refine takeW (i := 4) (v := ?v5) rfl (by kernel_rfl) (by kernel_rfl) (by kernel_rfl) (fun _ _ _ h => h) (by kernel_rfl) hHeld ?hy5 ?rest5
        case hy5 => (intro w hSw; (try dsimp only at hSw); go_simp; (try with_reducible rfl))
        try simp only [Act.put, List.setIfInBounds_toArray, List.set_cons_zero, List.set_cons_succ]
        refine takeW (i := 5) (v := ?v6) rfl (by kernel_rfl) (by kernel_rfl) (by kernel_rfl) (fun _ _ _ h => h) (by kernel_rfl) hHeld ?hy6 ?rest6
        case hy6 => (intro w hSw; (try dsimp only at hSw); go_simp; (try with_reducible rfl))
        try simp only [Act.put, List.setIfInBounds_toArray, List.set_cons_zero, List.set_cons_succ]
        refine takeW (i := 6) (v := ?v7) rfl (by kernel_rfl) (by kernel_rfl) (by kernel_rfl) (fun _ _ _ h => h) (by kernel_rfl) hHeld ?hy7 ?rest7
        case hy7 => (intro w hSw; (try dsimp only at hSw); go_simp; (try with_reducible rfl))
        try simp only [Act.put, List.setIfInBounds_toArray, List.set_cons_zero, List.set_cons_succ]
        refine takeW (i := 7) (v := ?v8) rfl (by kernel_rfl) (by kernel_rfl) (by kernel_rfl) (fun _ _ _ h => h) (by kernel_rfl) hHeld ?hy8 ?rest8
        case hy8 => (intro w hSw; (try dsimp only at hSw); go_simp; (try with_reducible rfl))
        try simp only [Act.put, List.setIfInBounds_toArray, List.set_cons_zero, List.set_cons_succ]
        refine takeW (i := 8) (v := ?v9) rfl (by kernel_rfl) (by kernel_rfl) (by kernel_rfl) (fun _ _ _ h => h) (by kernel_rfl) hHeld ?hy9 ?rest9
        case hy9 => (intro w hSw; (try dsimp only at hSw); go_simp; (try with_reducible rfl))
        try simp only [Act.put, List.setIfInBounds_toArray, List.set_cons_zero, List.set_cons_succ]
        refine takeW (i := 9) (v := ?v10) rfl (by kernel_rfl) (by kernel_rfl) (by kernel_rfl) (fun _ _ _ h => h) (by kernel_rfl) hHeld ?hy10 ?rest10
        case hy10 => (intro w hSw; (try dsimp only at hSw); go_simp; (try with_reducible rfl))
        try simp only [Act.put, List.setIfInBounds_toArray, List.set_cons_zero, List.set_cons_succ]
        refine takeW (i := 10) (v := ?v11) rfl (by kernel_rfl) (by kernel_rfl) (by kernel_rfl) (fun _ _ _ h => h) (by kernel_rfl) hHeld ?hy11 ?rest11
        case hy11 => (intro w hSw; (try dsimp only at hSw); go_simp; (try with_reducible rfl))
        try simp only [Act.put, List.setIfInBounds_toArray, List.set_cons_zero, List.set_cons_succ]
        refine takeW (i := 11) (v := ?v12) rfl (by kernel_rfl) (by kernel_rfl) (by kernel_rfl) (fun _ _ _ h => h) (by kernel_rfl) hHeld ?hy12 ?rest12
        case hy12 => (intro w hSw; (try dsimp only at hSw); go_simp; (try with_reducible rfl))
        try simp only [Act.put, List.setIfInBounds_toArray, List.set_cons_zero, List.set_cons_succ]
        refine takeU (i := 12) rfl (by kernel_rfl) (by kernel_rfl) (by kernel_rfl) (fun _ _ _ h => h) (by kernel_rfl) hHeld ?_
        try simp only [Act.put, List.setIfInBounds_toArray, List.set_cons_zero, List.set_cons_succ]
        refine takeU (i := 13) rfl (by kernel_rfl) (by kernel_rfl) (by kernel_rfl) (fun _ _ _ h => h) (by kernel_rfl) hHeld ?_
        try simp only [Act.put, List.setIfInBounds_toArray, List.set_cons_zero, List.set_cons_succ]
        refine takeU (i := 14) rfl (by kernel_rfl) (by kernel_rfl) (by kernel_rfl) (fun _ _ _ h => h) (by kernel_rfl) hHeld ?_
        try simp only [Act.put, List.setIfInBounds_toArray, List.set_cons_zero, List.set_cons_succ]
        refine takeW (i := 15) (v := ?v13) rfl (by kernel_rfl) (by kernel_rfl) (by kernel_rfl) (fun _ _ _ h => h) (by kernel_rfl) hHeld ?hy13 ?rest13
        case hy13 => (intro w hSw; (try dsimp only at hSw); go_simp; (try with_reducible rfl))
        try simp only [Act.put, List.setIfInBounds_toArray, List.set_cons_zero, List.set_cons_succ]
        refine wpAnyH_ready (rs := [16]) (by kernel_rfl) (by simp) ?_
        refine consL rfl (by kernel_rfl) (fun K hK => ?_) AllReadyH.nil
        go_simp
        with_reducible refine cd.mono ?_
        rintro en w5 ⟨rfl, hx5, ho5⟩
        refine hK.out _ _ (⟨hx5.rd0.1, hx5.rd0.2.1, hx5.lt⟩) (fun hHeld => ?_)
        clear hK K
        try simp only [Act.put, List.setIfInBounds_toArray, List.set_cons_zero, List.set_cons_succ]
        refine wpAnyH_done (by kernel_rfl) ?_ _
        all_goals
          go_wp2_with fail
          go_ret
          refine ⟨rfl, m, q, ?_, ?_, HMB.out, ?_⟩
          · rw [HIT.out]
            exact (HT.out.later (Below.refl _ wr).drew).off ho5 (fun e => hb1 e.symm) (fun k hk e => by have := HMB.out k hk; omega)
          · rw [HIT.out]
            simp only
            rw [HD.out, Bool.false_and]
            exact hx5
          · exact (HO.out.drew).trans ho5 (fun i hi h => h)
end Go.Proofs.Ytnpfakjgocnkbaa
