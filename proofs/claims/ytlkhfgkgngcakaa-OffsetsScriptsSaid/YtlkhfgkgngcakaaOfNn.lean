/- offsets: the document's Entry, by a contract. No condition. -/
import Derived.Test.YtlkhfgkgngcakaaOfEn
import Derived.Test.YtlkhfgkgngcakaaOfMa
import Derived.Test.YtlkhfgkgngcakaaOfMb
namespace Go.Proofs.Ytlkhfgkgngcakaa
open Go.RowKit
set_option linter.unusedVariables false
theorem dent_result {w : World} (g : Nat) {e : Int} {v0 v1 v2 v3 v4 v5 v6 : Value} (h : Box w g 34 #[v0, v1, v2, v3, v4, v5, v6]) (tmps : Array Value) (ht : (tmps[8]?).getD undef = .pointer (some ⟨g, 0, none⟩)) (he : (tmps[9]?).getD undef = .int .i64 e) :
    (results Try.f25 tmps).run Try.prog w = .ok (.tuple #[.agg #[v0, v1, v2, v3, v4, v5, v6], .int .i64 e]) w := by
  have c0 := (h.cell 0).trans (show _ = some v0 from rfl)
  have c1 := (h.cell 1).trans (show _ = some v1 from rfl)
  have c2 := (h.cell 2).trans (show _ = some v2 from rfl)
  have c3 := (h.cell 3).trans (show _ = some v3 from rfl)
  have c4 := (h.cell 4).trans (show _ = some v4 from rfl)
  have c5 := (h.cell 5).trans (show _ = some v5 from rfl)
  have c6 := (h.cell 6).trans (show _ = some v6 from rfl)
  simp [results, Try.results25, go_sem, ht, he, c0, c1, c2, c3, c4, c5, c6]
/-- While it goes on: the partition's box, the result's. -/
structure DnI (W : World) (k : KY) (w : World) : Prop where
  key : Box w W.heap.size 36 #[.string k.t, .int .i64 k.i]
  res : Box w (W.heap.size + 1) 34 recZ
  below : Below W.heap.size W w
theorem DnI.later {W w w' : World} {k : KY} (h : DnI W k w) (hb : Below w.heap.size w w') : DnI W k w' := ⟨h.key.later hb, h.res.later hb, h.below.trans (hb.mono h.below.size)⟩
theorem DnI.start (W : World) (k : KY) : DnI W k ((W.alloc (.cells #[.string k.t, .int .i64 k.i] 36)).alloc (.cells #[.int .i64 0, .int .i64 0, .bool false, .string ⟨#[]⟩, .bool false, .string ⟨#[]⟩, .slice none 0 0] 34)) := by
  have hB := (Below.refl W.heap.size W).alloc (Nat.le_refl _) (.cells #[.string k.t, .int .i64 k.i] 36)
  have hb2 := Box.new (W.alloc (.cells #[.string k.t, .int .i64 k.i] 36)) 34 #[.int .i64 0, .int .i64 0, .bool false, .string ⟨#[]⟩, .bool false, .string ⟨#[]⟩, .slice none 0 0]
  rw [World.size_alloc] at hb2
  have hB2 := (Below.refl (W.alloc (.cells #[.string k.t, .int .i64 k.i] 36)).heap.size (W.alloc (.cells #[.string k.t, .int .i64 k.i] 36))).alloc (Nat.le_refl _) (.cells #[.int .i64 0, .int .i64 0, .bool false, .string ⟨#[]⟩, .bool false, .string ⟨#[]⟩, .slice none 0 0] 34)
  exact ⟨(Box.new W 36 #[.string k.t, .int .i64 k.i]).later hB2, hb2, hB.trans (hB2.mono (by simp))⟩
theorem DnI.facts {W w : World} {k : KY} (h : DnI W k w) : w.cell? ⟨W.heap.size, 0, none⟩ = some (.string k.t) ∧ w.cell? ⟨W.heap.size, 1, none⟩ = some (.int .i64 k.i) := ⟨(h.key.cell 0).trans rfl, (h.key.cell 1).trans rfl⟩
theorem dent_fin {W w : World} {k : KY} (h : DnI W k w) (v0 v1 v2 v3 v4 v5 v6 : Value) : Box (set7 w (W.heap.size + 1) v0 v1 v2 v3 v4 v5 v6) (W.heap.size + 1) 34 #[v0, v1, v2, v3, v4, v5, v6] ∧ Below W.heap.size W (set7 w (W.heap.size + 1) v0 v1 v2 v3 v4 v5 v6) :=
  ⟨set7_box h.res _ _ _ _ _ _ _, h.below.trans ((set7_off w (W.heap.size + 1) _ _ _ _ _ _ _).below h.below.size (fun k hk => by omega))⟩
/-- The record's own box too. -/
structure DnJ (W : World) (k : KY) (q : Nat) (cs : Array Value) (w : World) : Prop where
  base : DnI W k w
  own : Box w q 34 cs
  far : W.heap.size + 1 < q
theorem DnJ.later {W w w' : World} {k : KY} {q : Nat} {cs : Array Value} (h : DnJ W k q cs w) (hb : Below w.heap.size w w') : DnJ W k q cs w' := ⟨h.base.later hb, h.own.later hb, h.far⟩
theorem DnI.make {W w : World} {k : KY} (h : DnI W k w) (cs : Array Value) : DnJ W k w.heap.size cs (w.alloc (.cells cs 34)) :=
  ⟨h.later ((Below.refl _ _).alloc (Nat.le_refl _) _), Box.new _ _ _, h.res.lt⟩
theorem DnJ.set {W w : World} {k : KY} {q : Nat} {cs : Array Value} (h : DnJ W k q cs w) (i : Nat) (u : Value) : DnJ W k q (cs.setIfInBounds i u) (w.setCell ⟨q, i, none⟩ u) := by
  have hq := h.far
  exact ⟨⟨h.base.key.far (by show W.heap.size ≠ q; omega) u, h.base.res.far (by show W.heap.size + 1 ≠ q; omega) u, h.base.below.trans ((Off.one w ⟨q, i, none⟩ u).below h.base.below.size (fun j hj => by have e : j = q := hj; omega))⟩, h.own.set i u, h.far⟩
theorem DnJ.all {W w : World} {k : KY} {q : Nat} {a0 a1 a2 a3 a4 a5 a6 : Value} (h : DnJ W k q #[a0, a1, a2, a3, a4, a5, a6] w) (v0 v1 v2 v3 v4 v5 v6 : Value) : DnJ W k q #[v0, v1, v2, v3, v4, v5, v6] (set7 w q v0 v1 v2 v3 v4 v5 v6) := by
  have hq := h.far
  have ho := set7_off w q v0 v1 v2 v3 v4 v5 v6
  exact ⟨⟨h.base.key.off ho (by show ¬ W.heap.size = q; omega), h.base.res.off ho (by show ¬ W.heap.size + 1 = q; omega), h.base.below.trans (ho.below h.base.below.size (fun j hj => by have e : j = q := hj; omega))⟩, set7_box h.own _ _ _ _ _ _ _, h.far⟩
theorem DnJ.fin {W w : World} {k : KY} {q : Nat} {cs : Array Value} (h : DnJ W k q cs w) (v0 v1 v2 v3 v4 v5 v6 : Value) : Box (set7 w (W.heap.size + 1) v0 v1 v2 v3 v4 v5 v6) (W.heap.size + 1) 34 #[v0, v1, v2, v3, v4, v5, v6] ∧ Below W.heap.size W (set7 w (W.heap.size + 1) v0 v1 v2 v3 v4 v5 v6) := dent_fin h.base _ _ _ _ _ _ _
set_option maxHeartbeats 4000000 in
set_option maxRecDepth 100000 in
theorem dentry_bad (k : KY) (a tm : Int) (W : World) (hg : k.g.size ≤ 140737488351232) (ht : k.t.size ≤ 140737488351232) (h : enOk k a tm = false) : Calls Try.prog 25 #[.string k.g, .agg #[.string k.t, .int .i64 k.i], .int .i64 a, .int .i64 tm] W (Good W (.tuple #[recV recZero none 0, .int .i64 1])) := by
  have H := Lib.hid (DnI.start W k)
  have cm := fun w => dkey_c k hg ht w
  obtain ⟨k0, k1⟩ := H.out.facts
  unfold enOk witB at h
  clear hg ht
  cases hm : mayK k with
  | false =>
    rw [hm] at cm
    clear h hm
    go_enter Try.func25, Try.ntmps25
    go_wp2_with fail
    with_reducible refine (cm _).mono ?_
    rintro en w1 ⟨rfl, hb⟩
    have HA := Lib.hid (H.out.later hb)
    obtain ⟨⟨r0, r1, r2, r3, r4, r5, r6⟩, ⟨f0, f1, f2, f3, f4, f5, f6⟩, rl⟩ := box7 HA.out.res
    clear hb H k0 k1
    go_wp2_with fail
    refine bodyPost_ret (v := .tuple #[recV recZero none 0, .int .i64 1]) ?_ rfl ⟨rfl, (dent_fin HA.out _ _ _ _ _ _ _).2⟩
    exact dent_result _ (dent_fin HA.out _ _ _ _ _ _ _).1 _ rfl rfl
  | true =>
    rw [hm] at cm h
    clear hm
    by_cases h1 : tm < 0
    · clear h
      go_enter Try.func25, Try.ntmps25
      go_wp2_with fail
      with_reducible refine (cm _).mono ?_
      rintro en w1 ⟨rfl, hb⟩
      have HA := Lib.hid (H.out.later hb)
      obtain ⟨⟨r0, r1, r2, r3, r4, r5, r6⟩, ⟨f0, f1, f2, f3, f4, f5, f6⟩, rl⟩ := box7 HA.out.res
      clear hb H k0 k1
      go_wp2_with fail
      refine bodyPost_ret (v := .tuple #[recV recZero none 0, .int .i64 1]) ?_ rfl ⟨rfl, (dent_fin HA.out _ _ _ _ _ _ _).2⟩
      exact dent_result _ (dent_fin HA.out _ _ _ _ _ _ _).1 _ rfl rfl
    · by_cases h2 : 1099511627776 < tm
      · clear h
        go_enter Try.func25, Try.ntmps25
        go_wp2_with fail
        with_reducible refine (cm _).mono ?_
        rintro en w1 ⟨rfl, hb⟩
        have HA := Lib.hid (H.out.later hb)
        obtain ⟨⟨r0, r1, r2, r3, r4, r5, r6⟩, ⟨f0, f1, f2, f3, f4, f5, f6⟩, rl⟩ := box7 HA.out.res
        clear hb H k0 k1
        go_wp2_with fail
        refine bodyPost_ret (v := .tuple #[recV recZero none 0, .int .i64 1]) ?_ rfl ⟨rfl, (dent_fin HA.out _ _ _ _ _ _ _).2⟩
        exact dent_result _ (dent_fin HA.out _ _ _ _ _ _ _).1 _ rfl rfl
      · rw [decide_eq_true (show 0 ≤ tm by omega), decide_eq_true (show tm ≤ 1099511627776 by omega)] at h
        by_cases h3 : a < -1
        · clear h
          go_enter Try.func25, Try.ntmps25
          go_wp2_with fail
          with_reducible refine (cm _).mono ?_
          rintro en w1 ⟨rfl, hb⟩
          have HA := Lib.hid (H.out.later hb)
          obtain ⟨⟨r0, r1, r2, r3, r4, r5, r6⟩, ⟨f0, f1, f2, f3, f4, f5, f6⟩, rl⟩ := box7 HA.out.res
          clear hb H k0 k1
          go_wp2_with fail
          refine bodyPost_ret (v := .tuple #[recV recZero none 0, .int .i64 1]) ?_ rfl ⟨rfl, (dent_fin HA.out _ _ _ _ _ _ _).2⟩
          exact dent_result _ (dent_fin HA.out _ _ _ _ _ _ _).1 _ rfl rfl
        · have h4 : 1099511627776 < a := by
            by_cases e : a = -1
            · subst e; exact absurd h (by decide)
            · by_cases e2 : a ≤ 1099511627776
              · rw [decide_eq_true (show 0 ≤ a by omega), decide_eq_true e2] at h
                simp at h
              · omega
          clear h
          go_enter Try.func25, Try.ntmps25
          go_wp2_with fail
          with_reducible refine (cm _).mono ?_
          rintro en w1 ⟨rfl, hb⟩
          have HA := Lib.hid (H.out.later hb)
          obtain ⟨⟨r0, r1, r2, r3, r4, r5, r6⟩, ⟨f0, f1, f2, f3, f4, f5, f6⟩, rl⟩ := box7 HA.out.res
          clear hb H k0 k1
          go_wp2_with fail
          refine bodyPost_ret (v := .tuple #[recV recZero none 0, .int .i64 1]) ?_ rfl ⟨rfl, (dent_fin HA.out _ _ _ _ _ _ _).2⟩
          exact dent_result _ (dent_fin HA.out _ _ _ _ _ _ _).1 _ rfl rfl
set_option maxHeartbeats 16000000 in
set_option maxRecDepth 100000 in
theorem dentry_good (k : KY) (a tm : Int) (W : World) (h : enOk k a tm = true) : Calls Try.prog 25 #[.string k.g, .agg #[.string k.t, .int .i64 k.i], .int .i64 a, .int .i64 tm] W (Good W (.tuple #[recV (enRec k a tm) none 0, .int .i64 0])) := by
  obtain ⟨hm, htm, ha⟩ := enOk_parts h
  obtain ⟨hg, ht, hi⟩ := mayK_parts hm
  have H := Lib.hid (DnI.start W k)
  have cm := fun w => dkey_c k (by omega) (by omega) w
  rw [hm] at cm
  have t1 := fun w => rtext_c k.g w (by omega)
  have t2 := fun w => rtext_c k.t w (by omega)
  have t3 := fun w => rput_c k.i w (by omega) (by omega)
  have s1 : (textG k.g).size ≤ 110 := by rw [← txt_textG]; exact txt_size (by omega)
  have s2 : (textG k.t).size ≤ 110 := by rw [← txt_textG]; exact txt_size (by omega)
  have s3 : (⟨(putL k.i).toArray⟩ : ByteArray).size ≤ 10 := put_size k.i
  have HJ := Lib.hid (key_join k)
  generalize textG k.g = T1 at *
  generalize textG k.t = T2 at *
  generalize (⟨(putL k.i).toArray⟩ : ByteArray) = T3 at *
  have hadd1 : ∀ w, (Op.stringOp .add T1 T2).run Try.prog w = .ok (.string (T1 ++ T2)) w := fun w => add_run s1 s2 (by omega) w
  have hadd2 : ∀ w, (Op.stringOp .add (T1 ++ T2) T3).run Try.prog w = .ok (.string (T1 ++ T2 ++ T3)) w := fun w => add_run (cat_le s1 s2) s3 (by omega) w
  obtain ⟨TT, hTT⟩ : ∃ TT, T1 ++ T2 ++ T3 = TT := ⟨_, rfl⟩
  rw [hTT] at hadd2 HJ
  obtain ⟨T12, hT12⟩ : ∃ T12, T1 ++ T2 = T12 := ⟨_, rfl⟩
  rw [hT12] at hadd1 hadd2
  obtain ⟨k0, k1⟩ := H.out.facts
  have x0 : ¬ tm < 0 := by omega
  have x1 : ¬ 1099511627776 < tm := by omega
  have x2 : ¬ a < -1 := by omega
  have x3 : ¬ 1099511627776 < a := by omega
  clear s1 s2 s3 hTT hT12 hm hg ht hi htm
  by_cases hn : a = -1
  · subst hn
    have hr : recV (enRec k (-1) tm) none 0 = .agg #[.int .i64 0, .int .i64 tm, .bool false, .string TT, .bool true, .string ⟨#[]⟩, .slice none 0 0] := by
      unfold enRec recV recC
      rw [← HJ.out]
      rfl
    rw [hr]
    clear h ha hr x2 x3
    go_enter Try.func25, Try.ntmps25
    go_wp2_with fail
    with_reducible refine (cm _).mono ?_
    rintro en w1 ⟨rfl, hb⟩
    have HA := Lib.hid (H.out.later hb)
    clear hb H k0 k1 cm
    go_wp2_with fail
    have HQ := Lib.hid HA.out
    clear HA
    generalize w1 = w3 at *
    have HQ3 := Lib.hid (HQ.out.later (Below.refl _ _).drew)
    have hS0 := HQ3.out.facts
    refine wp_region_held_drew (S := (fun w => w.cell? ⟨W.heap.size, 0, none⟩ = some (.string k.t) ∧ w.cell? ⟨W.heap.size, 1, none⟩ = some (.int .i64 k.i))) (by kernel_rfl) hS0 (fun hHeld => ?_)
    clear hS0
    refine takeW (i := 0) (v := ?v7001) rfl (by kernel_rfl) (by kernel_rfl) (by kernel_rfl) (fun _ _ _ h => h) (by kernel_rfl) hHeld ?hy7001 ?rest7001
    case hy7001 => (intro w hSw; (try dsimp only at hSw); go_simp; (try with_reducible rfl))
    try simp only [Act.put, List.setIfInBounds_toArray, List.set_cons_zero, List.set_cons_succ]
    refine takeW (i := 1) (v := ?v7002) rfl (by kernel_rfl) (by kernel_rfl) (by kernel_rfl) (fun _ _ _ h => h) (by kernel_rfl) hHeld ?hy7002 ?rest7002
    case hy7002 => (intro w hSw; (try dsimp only at hSw); go_simp; (try with_reducible rfl))
    try simp only [Act.put, List.setIfInBounds_toArray, List.set_cons_zero, List.set_cons_succ]
    refine takeW (i := 3) (v := ?v7003) rfl (by kernel_rfl) (by kernel_rfl) (by kernel_rfl) (fun _ _ _ h => h) (by kernel_rfl) hHeld ?hy7003 ?rest7003
    case hy7003 => (intro w hSw; (try dsimp only at hSw); go_simp; (try with_reducible rfl))
    try simp only [Act.put, List.setIfInBounds_toArray, List.set_cons_zero, List.set_cons_succ]
    refine takeW (i := 4) (v := ?v7004) rfl (by kernel_rfl) (by kernel_rfl) (by kernel_rfl) (fun _ _ _ h => h) (by kernel_rfl) hHeld ?hy7004 ?rest7004
    case hy7004 => (intro w hSw; (try dsimp only at hSw); go_simp; (try with_reducible rfl))
    try simp only [Act.put, List.setIfInBounds_toArray, List.set_cons_zero, List.set_cons_succ]
    refine takeW (i := 7) (v := ?v7005) rfl (by kernel_rfl) (by kernel_rfl) (by kernel_rfl) (fun _ _ _ h => h) (by kernel_rfl) hHeld ?hy7005 ?rest7005
    case hy7005 => (intro w hSw; (try dsimp only at hSw); go_simp; (try with_reducible rfl))
    try simp only [Act.put, List.setIfInBounds_toArray, List.set_cons_zero, List.set_cons_succ]
    refine takeW (i := 8) (v := ?v7006) rfl (by kernel_rfl) (by kernel_rfl) (by kernel_rfl) (fun _ _ _ h => h) (by kernel_rfl) hHeld ?hy7006 ?rest7006
    case hy7006 => (intro w hSw; (try dsimp only at hSw); go_simp; (try with_reducible rfl))
    try simp only [Act.put, List.setIfInBounds_toArray, List.set_cons_zero, List.set_cons_succ]
    refine wpAnyH_ready (rs := [2, 12]) (by kernel_rfl) (by simp) ?_
    refine consL rfl (by kernel_rfl) (fun K hK => ?_) (consL rfl (by kernel_rfl) (fun K hK => ?_) AllReadyH.nil)
    · go_simp
      with_reducible refine (t1 _).mono ?_
      rintro en w4 ⟨rfl, hb4⟩
      have HQ4 := Lib.hid (HQ3.out.later hb4)
      clear hb4 HQ3
      refine hK.out _ _ (HQ4.out.facts) (fun hHeld => ?_)
      clear hK K
      try simp only [Act.put, List.setIfInBounds_toArray, List.set_cons_zero, List.set_cons_succ]
      refine wpAnyH_ready (rs := [5, 12]) (by kernel_rfl) (by simp) ?_
      refine consL rfl (by kernel_rfl) (fun K hK => ?_) (consL rfl (by kernel_rfl) (fun K hK => ?_) AllReadyH.nil)
      · go_simp
        with_reducible refine (t2 _).mono ?_
        rintro en w5 ⟨rfl, hb5⟩
        have HQ5 := Lib.hid (HQ4.out.later hb5)
        clear hb5 HQ4
        refine hK.out _ _ (HQ5.out.facts) (fun hHeld => ?_)
        clear hK K
        try simp only [Act.put, List.setIfInBounds_toArray, List.set_cons_zero, List.set_cons_succ]
        refine takeW (i := 6) (v := ?v7007) rfl (by kernel_rfl) (by kernel_rfl) (by kernel_rfl) (fun _ _ _ h => h) (by kernel_rfl) hHeld ?hy7007 ?rest7007
        case hy7007 => (intro w hSw; (try dsimp only at hSw); go_simp; (try with_reducible rfl))
        try simp only [Act.put, List.setIfInBounds_toArray, List.set_cons_zero, List.set_cons_succ]
        refine wpAnyH_ready (rs := [9, 12]) (by kernel_rfl) (by simp) ?_
        refine consL rfl (by kernel_rfl) (fun K hK => ?_) (consL rfl (by kernel_rfl) (fun K hK => ?_) AllReadyH.nil)
        · go_simp
          with_reducible refine (t3 _).mono ?_
          rintro en w6 ⟨rfl, hb6⟩
          have HQ6 := Lib.hid (HQ5.out.later hb6)
          clear hb6 HQ5
          refine hK.out _ _ (HQ6.out.facts) (fun hHeld => ?_)
          clear hK K
          try simp only [Act.put, List.setIfInBounds_toArray, List.set_cons_zero, List.set_cons_succ]
          refine takeW (i := 10) (v := ?v7008) rfl (by kernel_rfl) (by kernel_rfl) (by kernel_rfl) (fun _ _ _ h => h) (by kernel_rfl) hHeld ?hy7008 ?rest7008
          case hy7008 => (intro w hSw; (try dsimp only at hSw); go_simp; (try with_reducible rfl))
          try simp only [Act.put, List.setIfInBounds_toArray, List.set_cons_zero, List.set_cons_succ]
          refine takeW (i := 11) (v := ?v7009) rfl (by kernel_rfl) (by kernel_rfl) (by kernel_rfl) (fun _ _ _ h => h) (by kernel_rfl) hHeld ?hy7009 ?rest7009
          case hy7009 => (intro w hSw; (try dsimp only at hSw); go_simp; (try with_reducible rfl))
          try simp only [Act.put, List.setIfInBounds_toArray, List.set_cons_zero, List.set_cons_succ]
          refine wpAnyH_ready (rs := [12]) (by kernel_rfl) (by simp) ?_
          refine consL rfl (by kernel_rfl) (fun K hK => ?_) AllReadyH.nil
          go_simp
          have HQ7 := Lib.hid (HQ6.out.make #[.int .i64 0, .int .i64 0, .bool false, .string ⟨#[]⟩, .bool false, .string ⟨#[]⟩, .slice none 0 0])
          refine hK.out _ _ (HQ7.out.base.facts) (fun hHeld => ?_)
          clear hK K
          try simp only [Act.put, List.setIfInBounds_toArray, List.set_cons_zero, List.set_cons_succ]
          refine wpAnyH_ready (rs := [13]) (by kernel_rfl) (by simp) ?_
          refine consL rfl (by kernel_rfl) (fun K hK => ?_) AllReadyH.nil
          obtain ⟨⟨r0, r1, r2, r3, r4, r5, r6⟩, ⟨f0, f1, f2, f3, f4, f5, f6⟩, rl⟩ := box7 HQ7.out.own
          go_simp
          have HQ8 := Lib.hid (HQ6.out.make #[.int .i64 0, .int .i64 tm, .bool false, .string TT, .bool false, .string ⟨#[]⟩, .slice none 0 0])
          clear HQ7 r0 r1 r2 r3 r4 r5 r6 f0 f1 f2 f3 f4 f5 f6 rl
          refine hK.out _ _ (HQ8.out.base.facts) (fun hHeld => ?_)
          clear hK K
          try simp only [Act.put, List.setIfInBounds_toArray, List.set_cons_zero, List.set_cons_succ]
          refine wpAnyH_done (by kernel_rfl) ?_ _
          clear HQ6 hHeld
          generalize (w6.alloc (.cells #[.int .i64 0, .int .i64 tm, .bool false, .string TT, .bool false, .string ⟨#[]⟩, .slice none 0 0] 34)) = w7 at *
          generalize w6.heap.size = q at *
          have hown : Box w7 q 34 #[.int .i64 0, .int .i64 tm, .bool false, .string TT, .bool false, .string ⟨#[]⟩, .slice none 0 0] := HQ8.out.own
          obtain ⟨⟨r0, r1, r2, r3, r4, r5, r6⟩, ⟨f0, f1, f2, f3, f4, f5, f6⟩, rl⟩ := box7 hown
          obtain ⟨⟨p0, p1, p2, p3, p4, p5, p6⟩, ⟨g0, g1, g2, g3, g4, g5, g6⟩, pl⟩ := box7 HQ8.out.base.res
          have HQ9 := Lib.hid (HQ8.out.set 4 (.bool true))
          have hfar := HQ8.out.far
          clear hown
          go_wp2_with fail
          refine bodyPost_ret (v := .tuple #[.agg #[.int .i64 0, .int .i64 tm, .bool false, .string TT, .bool true, .string ⟨#[]⟩, .slice none 0 0], .int .i64 0]) ?_ rfl ⟨rfl, ?_⟩
          · exact dent_result (W.heap.size + 1) (HQ9.out.fin _ _ _ _ _ _ _).1 _ rfl rfl
          · exact (HQ9.out.fin _ _ _ _ _ _ _).2
        · go_simp
          have HQ9 := Lib.hid (HQ5.out.make #[.int .i64 0, .int .i64 0, .bool false, .string ⟨#[]⟩, .bool false, .string ⟨#[]⟩, .slice none 0 0])
          clear HQ5
          have HQ5 := HQ9
          clear HQ9
          refine hK.out _ _ (HQ5.out.base.facts) (fun hHeld => ?_)
          clear hK K
          try simp only [Act.put, List.setIfInBounds_toArray, List.set_cons_zero, List.set_cons_succ]
          refine wpAnyH_ready (rs := [9]) (by kernel_rfl) (by simp) ?_
          refine consL rfl (by kernel_rfl) (fun K hK => ?_) AllReadyH.nil
          go_simp
          with_reducible refine (t3 _).mono ?_
          rintro en w6 ⟨rfl, hb6⟩
          have HQ6 := Lib.hid (HQ5.out.later hb6)
          clear hb6 HQ5
          refine hK.out _ _ (HQ6.out.base.facts) (fun hHeld => ?_)
          clear hK K
          try simp only [Act.put, List.setIfInBounds_toArray, List.set_cons_zero, List.set_cons_succ]
          refine takeW (i := 10) (v := ?v7010) rfl (by kernel_rfl) (by kernel_rfl) (by kernel_rfl) (fun _ _ _ h => h) (by kernel_rfl) hHeld ?hy7010 ?rest7010
          case hy7010 => (intro w hSw; (try dsimp only at hSw); go_simp; (try with_reducible rfl))
          try simp only [Act.put, List.setIfInBounds_toArray, List.set_cons_zero, List.set_cons_succ]
          refine takeW (i := 11) (v := ?v7011) rfl (by kernel_rfl) (by kernel_rfl) (by kernel_rfl) (fun _ _ _ h => h) (by kernel_rfl) hHeld ?hy7011 ?rest7011
          case hy7011 => (intro w hSw; (try dsimp only at hSw); go_simp; (try with_reducible rfl))
          try simp only [Act.put, List.setIfInBounds_toArray, List.set_cons_zero, List.set_cons_succ]
          refine wpAnyH_ready (rs := [13]) (by kernel_rfl) (by simp) ?_
          refine consL rfl (by kernel_rfl) (fun K hK => ?_) AllReadyH.nil
          obtain ⟨⟨r0, r1, r2, r3, r4, r5, r6⟩, ⟨f0, f1, f2, f3, f4, f5, f6⟩, rl⟩ := box7 HQ6.out.own
          go_simp
          have HQ8 := Lib.hid (HQ6.out.all (.int .i64 0) (.int .i64 tm) (.bool false) (.string TT) (.bool false) (.string ⟨#[]⟩) (.slice none 0 0))
          clear r0 r1 r2 r3 r4 r5 r6 f0 f1 f2 f3 f4 f5 f6 rl
          refine hK.out _ _ (HQ8.out.base.facts) (fun hHeld => ?_)
          clear hK K
          try simp only [Act.put, List.setIfInBounds_toArray, List.set_cons_zero, List.set_cons_succ]
          refine wpAnyH_done (by kernel_rfl) ?_ _
          clear HQ6 hHeld
          obtain ⟨w7, hw7⟩ : ∃ w7, (set7 w6 (w5.heap.size) (.int .i64 0) (.int .i64 tm) (.bool false) (.string TT) (.bool false) (.string ⟨#[]⟩) (.slice none 0 0)) = w7 := ⟨_, rfl⟩
          have hw8 : (((((((w6.setCell ⟨w5.heap.size, 0, none⟩ (.int .i64 0)).setCell ⟨w5.heap.size, 1, none⟩ (.int .i64 tm)).setCell ⟨w5.heap.size, 2, none⟩ (.bool false)).setCell ⟨w5.heap.size, 3, none⟩ (.string TT)).setCell ⟨w5.heap.size, 4, none⟩ (.bool false)).setCell ⟨w5.heap.size, 5, none⟩ (.string ⟨#[]⟩)).setCell ⟨w5.heap.size, 6, none⟩ (.slice none 0 0)) = w7 := hw7
          rw [hw7] at HQ8
          rw [hw8]
          clear hw7 hw8
          generalize w5.heap.size = q at *
          have hown : Box w7 q 34 #[.int .i64 0, .int .i64 tm, .bool false, .string TT, .bool false, .string ⟨#[]⟩, .slice none 0 0] := HQ8.out.own
          obtain ⟨⟨r0, r1, r2, r3, r4, r5, r6⟩, ⟨f0, f1, f2, f3, f4, f5, f6⟩, rl⟩ := box7 hown
          obtain ⟨⟨p0, p1, p2, p3, p4, p5, p6⟩, ⟨g0, g1, g2, g3, g4, g5, g6⟩, pl⟩ := box7 HQ8.out.base.res
          have HQ9 := Lib.hid (HQ8.out.set 4 (.bool true))
          have hfar := HQ8.out.far
          clear hown
          go_wp2_with fail
          refine bodyPost_ret (v := .tuple #[.agg #[.int .i64 0, .int .i64 tm, .bool false, .string TT, .bool true, .string ⟨#[]⟩, .slice none 0 0], .int .i64 0]) ?_ rfl ⟨rfl, ?_⟩
          · exact dent_result (W.heap.size + 1) (HQ9.out.fin _ _ _ _ _ _ _).1 _ rfl rfl
          · exact (HQ9.out.fin _ _ _ _ _ _ _).2
      · go_simp
        have HQ9 := Lib.hid (HQ4.out.make #[.int .i64 0, .int .i64 0, .bool false, .string ⟨#[]⟩, .bool false, .string ⟨#[]⟩, .slice none 0 0])
        clear HQ4
        have HQ4 := HQ9
        clear HQ9
        refine hK.out _ _ (HQ4.out.base.facts) (fun hHeld => ?_)
        clear hK K
        try simp only [Act.put, List.setIfInBounds_toArray, List.set_cons_zero, List.set_cons_succ]
        refine wpAnyH_ready (rs := [5]) (by kernel_rfl) (by simp) ?_
        refine consL rfl (by kernel_rfl) (fun K hK => ?_) AllReadyH.nil
        go_simp
        with_reducible refine (t2 _).mono ?_
        rintro en w5 ⟨rfl, hb5⟩
        have HQ5 := Lib.hid (HQ4.out.later hb5)
        clear hb5 HQ4
        refine hK.out _ _ (HQ5.out.base.facts) (fun hHeld => ?_)
        clear hK K
        try simp only [Act.put, List.setIfInBounds_toArray, List.set_cons_zero, List.set_cons_succ]
        refine takeW (i := 6) (v := ?v7012) rfl (by kernel_rfl) (by kernel_rfl) (by kernel_rfl) (fun _ _ _ h => h) (by kernel_rfl) hHeld ?hy7012 ?rest7012
        case hy7012 => (intro w hSw; (try dsimp only at hSw); go_simp; (try with_reducible rfl))
        try simp only [Act.put, List.setIfInBounds_toArray, List.set_cons_zero, List.set_cons_succ]
        refine wpAnyH_ready (rs := [9]) (by kernel_rfl) (by simp) ?_
        refine consL rfl (by kernel_rfl) (fun K hK => ?_) AllReadyH.nil
        go_simp
        with_reducible refine (t3 _).mono ?_
        rintro en w6 ⟨rfl, hb6⟩
        have HQ6 := Lib.hid (HQ5.out.later hb6)
        clear hb6 HQ5
        refine hK.out _ _ (HQ6.out.base.facts) (fun hHeld => ?_)
        clear hK K
        try simp only [Act.put, List.setIfInBounds_toArray, List.set_cons_zero, List.set_cons_succ]
        refine takeW (i := 10) (v := ?v7013) rfl (by kernel_rfl) (by kernel_rfl) (by kernel_rfl) (fun _ _ _ h => h) (by kernel_rfl) hHeld ?hy7013 ?rest7013
        case hy7013 => (intro w hSw; (try dsimp only at hSw); go_simp; (try with_reducible rfl))
        try simp only [Act.put, List.setIfInBounds_toArray, List.set_cons_zero, List.set_cons_succ]
        refine takeW (i := 11) (v := ?v7014) rfl (by kernel_rfl) (by kernel_rfl) (by kernel_rfl) (fun _ _ _ h => h) (by kernel_rfl) hHeld ?hy7014 ?rest7014
        case hy7014 => (intro w hSw; (try dsimp only at hSw); go_simp; (try with_reducible rfl))
        try simp only [Act.put, List.setIfInBounds_toArray, List.set_cons_zero, List.set_cons_succ]
        refine wpAnyH_ready (rs := [13]) (by kernel_rfl) (by simp) ?_
        refine consL rfl (by kernel_rfl) (fun K hK => ?_) AllReadyH.nil
        obtain ⟨⟨r0, r1, r2, r3, r4, r5, r6⟩, ⟨f0, f1, f2, f3, f4, f5, f6⟩, rl⟩ := box7 HQ6.out.own
        go_simp
        have HQ8 := Lib.hid (HQ6.out.all (.int .i64 0) (.int .i64 tm) (.bool false) (.string TT) (.bool false) (.string ⟨#[]⟩) (.slice none 0 0))
        clear r0 r1 r2 r3 r4 r5 r6 f0 f1 f2 f3 f4 f5 f6 rl
        refine hK.out _ _ (HQ8.out.base.facts) (fun hHeld => ?_)
        clear hK K
        try simp only [Act.put, List.setIfInBounds_toArray, List.set_cons_zero, List.set_cons_succ]
        refine wpAnyH_done (by kernel_rfl) ?_ _
        clear HQ6 hHeld
        obtain ⟨w7, hw7⟩ : ∃ w7, (set7 w6 (w4.heap.size) (.int .i64 0) (.int .i64 tm) (.bool false) (.string TT) (.bool false) (.string ⟨#[]⟩) (.slice none 0 0)) = w7 := ⟨_, rfl⟩
        have hw8 : (((((((w6.setCell ⟨w4.heap.size, 0, none⟩ (.int .i64 0)).setCell ⟨w4.heap.size, 1, none⟩ (.int .i64 tm)).setCell ⟨w4.heap.size, 2, none⟩ (.bool false)).setCell ⟨w4.heap.size, 3, none⟩ (.string TT)).setCell ⟨w4.heap.size, 4, none⟩ (.bool false)).setCell ⟨w4.heap.size, 5, none⟩ (.string ⟨#[]⟩)).setCell ⟨w4.heap.size, 6, none⟩ (.slice none 0 0)) = w7 := hw7
        rw [hw7] at HQ8
        rw [hw8]
        clear hw7 hw8
        generalize w4.heap.size = q at *
        have hown : Box w7 q 34 #[.int .i64 0, .int .i64 tm, .bool false, .string TT, .bool false, .string ⟨#[]⟩, .slice none 0 0] := HQ8.out.own
        obtain ⟨⟨r0, r1, r2, r3, r4, r5, r6⟩, ⟨f0, f1, f2, f3, f4, f5, f6⟩, rl⟩ := box7 hown
        obtain ⟨⟨p0, p1, p2, p3, p4, p5, p6⟩, ⟨g0, g1, g2, g3, g4, g5, g6⟩, pl⟩ := box7 HQ8.out.base.res
        have HQ9 := Lib.hid (HQ8.out.set 4 (.bool true))
        have hfar := HQ8.out.far
        clear hown
        go_wp2_with fail
        refine bodyPost_ret (v := .tuple #[.agg #[.int .i64 0, .int .i64 tm, .bool false, .string TT, .bool true, .string ⟨#[]⟩, .slice none 0 0], .int .i64 0]) ?_ rfl ⟨rfl, ?_⟩
        · exact dent_result (W.heap.size + 1) (HQ9.out.fin _ _ _ _ _ _ _).1 _ rfl rfl
        · exact (HQ9.out.fin _ _ _ _ _ _ _).2
    · go_simp
      have HQ9 := Lib.hid ((HQ.out.make #[.int .i64 0, .int .i64 0, .bool false, .string ⟨#[]⟩, .bool false, .string ⟨#[]⟩, .slice none 0 0]).later (Below.refl _ _).drew)
      clear HQ3
      have HQ3 := HQ9
      clear HQ9
      refine hK.out _ _ (HQ3.out.base.facts) (fun hHeld => ?_)
      clear hK K
      try simp only [Act.put, List.setIfInBounds_toArray, List.set_cons_zero, List.set_cons_succ]
      refine wpAnyH_ready (rs := [2]) (by kernel_rfl) (by simp) ?_
      refine consL rfl (by kernel_rfl) (fun K hK => ?_) AllReadyH.nil
      go_simp
      with_reducible refine (t1 _).mono ?_
      rintro en w4 ⟨rfl, hb4⟩
      have HQ4 := Lib.hid (HQ3.out.later hb4)
      clear hb4 HQ3
      refine hK.out _ _ (HQ4.out.base.facts) (fun hHeld => ?_)
      clear hK K
      try simp only [Act.put, List.setIfInBounds_toArray, List.set_cons_zero, List.set_cons_succ]
      refine wpAnyH_ready (rs := [5]) (by kernel_rfl) (by simp) ?_
      refine consL rfl (by kernel_rfl) (fun K hK => ?_) AllReadyH.nil
      go_simp
      with_reducible refine (t2 _).mono ?_
      rintro en w5 ⟨rfl, hb5⟩
      have HQ5 := Lib.hid (HQ4.out.later hb5)
      clear hb5 HQ4
      refine hK.out _ _ (HQ5.out.base.facts) (fun hHeld => ?_)
      clear hK K
      try simp only [Act.put, List.setIfInBounds_toArray, List.set_cons_zero, List.set_cons_succ]
      refine takeW (i := 6) (v := ?v7015) rfl (by kernel_rfl) (by kernel_rfl) (by kernel_rfl) (fun _ _ _ h => h) (by kernel_rfl) hHeld ?hy7015 ?rest7015
      case hy7015 => (intro w hSw; (try dsimp only at hSw); go_simp; (try with_reducible rfl))
      try simp only [Act.put, List.setIfInBounds_toArray, List.set_cons_zero, List.set_cons_succ]
      refine wpAnyH_ready (rs := [9]) (by kernel_rfl) (by simp) ?_
      refine consL rfl (by kernel_rfl) (fun K hK => ?_) AllReadyH.nil
      go_simp
      with_reducible refine (t3 _).mono ?_
      rintro en w6 ⟨rfl, hb6⟩
      have HQ6 := Lib.hid (HQ5.out.later hb6)
      clear hb6 HQ5
      refine hK.out _ _ (HQ6.out.base.facts) (fun hHeld => ?_)
      clear hK K
      try simp only [Act.put, List.setIfInBounds_toArray, List.set_cons_zero, List.set_cons_succ]
      refine takeW (i := 10) (v := ?v7016) rfl (by kernel_rfl) (by kernel_rfl) (by kernel_rfl) (fun _ _ _ h => h) (by kernel_rfl) hHeld ?hy7016 ?rest7016
      case hy7016 => (intro w hSw; (try dsimp only at hSw); go_simp; (try with_reducible rfl))
      try simp only [Act.put, List.setIfInBounds_toArray, List.set_cons_zero, List.set_cons_succ]
      refine takeW (i := 11) (v := ?v7017) rfl (by kernel_rfl) (by kernel_rfl) (by kernel_rfl) (fun _ _ _ h => h) (by kernel_rfl) hHeld ?hy7017 ?rest7017
      case hy7017 => (intro w hSw; (try dsimp only at hSw); go_simp; (try with_reducible rfl))
      try simp only [Act.put, List.setIfInBounds_toArray, List.set_cons_zero, List.set_cons_succ]
      refine wpAnyH_ready (rs := [13]) (by kernel_rfl) (by simp) ?_
      refine consL rfl (by kernel_rfl) (fun K hK => ?_) AllReadyH.nil
      obtain ⟨⟨r0, r1, r2, r3, r4, r5, r6⟩, ⟨f0, f1, f2, f3, f4, f5, f6⟩, rl⟩ := box7 HQ6.out.own
      go_simp
      have HQ8 := Lib.hid (HQ6.out.all (.int .i64 0) (.int .i64 tm) (.bool false) (.string TT) (.bool false) (.string ⟨#[]⟩) (.slice none 0 0))
      clear r0 r1 r2 r3 r4 r5 r6 f0 f1 f2 f3 f4 f5 f6 rl
      refine hK.out _ _ (HQ8.out.base.facts) (fun hHeld => ?_)
      clear hK K
      try simp only [Act.put, List.setIfInBounds_toArray, List.set_cons_zero, List.set_cons_succ]
      refine wpAnyH_done (by kernel_rfl) ?_ _
      clear HQ6 hHeld
      obtain ⟨w7, hw7⟩ : ∃ w7, (set7 w6 (w3.heap.size) (.int .i64 0) (.int .i64 tm) (.bool false) (.string TT) (.bool false) (.string ⟨#[]⟩) (.slice none 0 0)) = w7 := ⟨_, rfl⟩
      have hw8 : (((((((w6.setCell ⟨w3.heap.size, 0, none⟩ (.int .i64 0)).setCell ⟨w3.heap.size, 1, none⟩ (.int .i64 tm)).setCell ⟨w3.heap.size, 2, none⟩ (.bool false)).setCell ⟨w3.heap.size, 3, none⟩ (.string TT)).setCell ⟨w3.heap.size, 4, none⟩ (.bool false)).setCell ⟨w3.heap.size, 5, none⟩ (.string ⟨#[]⟩)).setCell ⟨w3.heap.size, 6, none⟩ (.slice none 0 0)) = w7 := hw7
      rw [hw7] at HQ8
      rw [hw8]
      clear hw7 hw8
      generalize w3.heap.size = q at *
      have hown : Box w7 q 34 #[.int .i64 0, .int .i64 tm, .bool false, .string TT, .bool false, .string ⟨#[]⟩, .slice none 0 0] := HQ8.out.own
      obtain ⟨⟨r0, r1, r2, r3, r4, r5, r6⟩, ⟨f0, f1, f2, f3, f4, f5, f6⟩, rl⟩ := box7 hown
      obtain ⟨⟨p0, p1, p2, p3, p4, p5, p6⟩, ⟨g0, g1, g2, g3, g4, g5, g6⟩, pl⟩ := box7 HQ8.out.base.res
      have HQ9 := Lib.hid (HQ8.out.set 4 (.bool true))
      have hfar := HQ8.out.far
      clear hown
      go_wp2_with fail
      refine bodyPost_ret (v := .tuple #[.agg #[.int .i64 0, .int .i64 tm, .bool false, .string TT, .bool true, .string ⟨#[]⟩, .slice none 0 0], .int .i64 0]) ?_ rfl ⟨rfl, ?_⟩
      · exact dent_result (W.heap.size + 1) (HQ9.out.fin _ _ _ _ _ _ _).1 _ rfl rfl
      · exact (HQ9.out.fin _ _ _ _ _ _ _).2
  · have t4 := fun w => rput_c a w (by omega) (by omega)
    have hr : recV (enRec k a tm) none 0 = .agg #[.int .i64 0, .int .i64 tm, .bool false, .string TT, .bool false, .string ⟨(putL a).toArray⟩, .slice none 0 0] := by
      unfold enRec recV recC
      rw [← HJ.out, if_neg hn, decide_eq_false hn]
      rfl
    rw [hr]
    have hne : (a == -1) = false := by rw [beq_eq_false_iff_ne]; exact hn
    clear h ha hr hn
    generalize (⟨(putL a).toArray⟩ : ByteArray) = VV at *
    go_enter Try.func25, Try.ntmps25
    go_wp2_with fail
    with_reducible refine (cm _).mono ?_
    rintro en w1 ⟨rfl, hb⟩
    have HA := Lib.hid (H.out.later hb)
    clear hb H k0 k1 cm
    go_wp2_with fail
    have HQ := Lib.hid HA.out
    clear HA
    generalize w1 = w3 at *
    have HQ3 := Lib.hid (HQ.out.later (Below.refl _ _).drew)
    have hS0 := HQ3.out.facts
    refine wp_region_held_drew (S := (fun w => w.cell? ⟨W.heap.size, 0, none⟩ = some (.string k.t) ∧ w.cell? ⟨W.heap.size, 1, none⟩ = some (.int .i64 k.i))) (by kernel_rfl) hS0 (fun hHeld => ?_)
    clear hS0
    refine takeW (i := 0) (v := ?v7018) rfl (by kernel_rfl) (by kernel_rfl) (by kernel_rfl) (fun _ _ _ h => h) (by kernel_rfl) hHeld ?hy7018 ?rest7018
    case hy7018 => (intro w hSw; (try dsimp only at hSw); go_simp; (try with_reducible rfl))
    try simp only [Act.put, List.setIfInBounds_toArray, List.set_cons_zero, List.set_cons_succ]
    refine takeW (i := 1) (v := ?v7019) rfl (by kernel_rfl) (by kernel_rfl) (by kernel_rfl) (fun _ _ _ h => h) (by kernel_rfl) hHeld ?hy7019 ?rest7019
    case hy7019 => (intro w hSw; (try dsimp only at hSw); go_simp; (try with_reducible rfl))
    try simp only [Act.put, List.setIfInBounds_toArray, List.set_cons_zero, List.set_cons_succ]
    refine takeW (i := 3) (v := ?v7020) rfl (by kernel_rfl) (by kernel_rfl) (by kernel_rfl) (fun _ _ _ h => h) (by kernel_rfl) hHeld ?hy7020 ?rest7020
    case hy7020 => (intro w hSw; (try dsimp only at hSw); go_simp; (try with_reducible rfl))
    try simp only [Act.put, List.setIfInBounds_toArray, List.set_cons_zero, List.set_cons_succ]
    refine takeW (i := 4) (v := ?v7021) rfl (by kernel_rfl) (by kernel_rfl) (by kernel_rfl) (fun _ _ _ h => h) (by kernel_rfl) hHeld ?hy7021 ?rest7021
    case hy7021 => (intro w hSw; (try dsimp only at hSw); go_simp; (try with_reducible rfl))
    try simp only [Act.put, List.setIfInBounds_toArray, List.set_cons_zero, List.set_cons_succ]
    refine takeW (i := 7) (v := ?v7022) rfl (by kernel_rfl) (by kernel_rfl) (by kernel_rfl) (fun _ _ _ h => h) (by kernel_rfl) hHeld ?hy7022 ?rest7022
    case hy7022 => (intro w hSw; (try dsimp only at hSw); go_simp; (try with_reducible rfl))
    try simp only [Act.put, List.setIfInBounds_toArray, List.set_cons_zero, List.set_cons_succ]
    refine takeW (i := 8) (v := ?v7023) rfl (by kernel_rfl) (by kernel_rfl) (by kernel_rfl) (fun _ _ _ h => h) (by kernel_rfl) hHeld ?hy7023 ?rest7023
    case hy7023 => (intro w hSw; (try dsimp only at hSw); go_simp; (try with_reducible rfl))
    try simp only [Act.put, List.setIfInBounds_toArray, List.set_cons_zero, List.set_cons_succ]
    refine wpAnyH_ready (rs := [2, 12]) (by kernel_rfl) (by simp) ?_
    refine consL rfl (by kernel_rfl) (fun K hK => ?_) (consL rfl (by kernel_rfl) (fun K hK => ?_) AllReadyH.nil)
    · go_simp
      with_reducible refine (t1 _).mono ?_
      rintro en w4 ⟨rfl, hb4⟩
      have HQ4 := Lib.hid (HQ3.out.later hb4)
      clear hb4 HQ3
      refine hK.out _ _ (HQ4.out.facts) (fun hHeld => ?_)
      clear hK K
      try simp only [Act.put, List.setIfInBounds_toArray, List.set_cons_zero, List.set_cons_succ]
      refine wpAnyH_ready (rs := [5, 12]) (by kernel_rfl) (by simp) ?_
      refine consL rfl (by kernel_rfl) (fun K hK => ?_) (consL rfl (by kernel_rfl) (fun K hK => ?_) AllReadyH.nil)
      · go_simp
        with_reducible refine (t2 _).mono ?_
        rintro en w5 ⟨rfl, hb5⟩
        have HQ5 := Lib.hid (HQ4.out.later hb5)
        clear hb5 HQ4
        refine hK.out _ _ (HQ5.out.facts) (fun hHeld => ?_)
        clear hK K
        try simp only [Act.put, List.setIfInBounds_toArray, List.set_cons_zero, List.set_cons_succ]
        refine takeW (i := 6) (v := ?v7024) rfl (by kernel_rfl) (by kernel_rfl) (by kernel_rfl) (fun _ _ _ h => h) (by kernel_rfl) hHeld ?hy7024 ?rest7024
        case hy7024 => (intro w hSw; (try dsimp only at hSw); go_simp; (try with_reducible rfl))
        try simp only [Act.put, List.setIfInBounds_toArray, List.set_cons_zero, List.set_cons_succ]
        refine wpAnyH_ready (rs := [9, 12]) (by kernel_rfl) (by simp) ?_
        refine consL rfl (by kernel_rfl) (fun K hK => ?_) (consL rfl (by kernel_rfl) (fun K hK => ?_) AllReadyH.nil)
        · go_simp
          with_reducible refine (t3 _).mono ?_
          rintro en w6 ⟨rfl, hb6⟩
          have HQ6 := Lib.hid (HQ5.out.later hb6)
          clear hb6 HQ5
          refine hK.out _ _ (HQ6.out.facts) (fun hHeld => ?_)
          clear hK K
          try simp only [Act.put, List.setIfInBounds_toArray, List.set_cons_zero, List.set_cons_succ]
          refine takeW (i := 10) (v := ?v7025) rfl (by kernel_rfl) (by kernel_rfl) (by kernel_rfl) (fun _ _ _ h => h) (by kernel_rfl) hHeld ?hy7025 ?rest7025
          case hy7025 => (intro w hSw; (try dsimp only at hSw); go_simp; (try with_reducible rfl))
          try simp only [Act.put, List.setIfInBounds_toArray, List.set_cons_zero, List.set_cons_succ]
          refine takeW (i := 11) (v := ?v7026) rfl (by kernel_rfl) (by kernel_rfl) (by kernel_rfl) (fun _ _ _ h => h) (by kernel_rfl) hHeld ?hy7026 ?rest7026
          case hy7026 => (intro w hSw; (try dsimp only at hSw); go_simp; (try with_reducible rfl))
          try simp only [Act.put, List.setIfInBounds_toArray, List.set_cons_zero, List.set_cons_succ]
          refine wpAnyH_ready (rs := [12]) (by kernel_rfl) (by simp) ?_
          refine consL rfl (by kernel_rfl) (fun K hK => ?_) AllReadyH.nil
          go_simp
          have HQ7 := Lib.hid (HQ6.out.make #[.int .i64 0, .int .i64 0, .bool false, .string ⟨#[]⟩, .bool false, .string ⟨#[]⟩, .slice none 0 0])
          refine hK.out _ _ (HQ7.out.base.facts) (fun hHeld => ?_)
          clear hK K
          try simp only [Act.put, List.setIfInBounds_toArray, List.set_cons_zero, List.set_cons_succ]
          refine wpAnyH_ready (rs := [13]) (by kernel_rfl) (by simp) ?_
          refine consL rfl (by kernel_rfl) (fun K hK => ?_) AllReadyH.nil
          obtain ⟨⟨r0, r1, r2, r3, r4, r5, r6⟩, ⟨f0, f1, f2, f3, f4, f5, f6⟩, rl⟩ := box7 HQ7.out.own
          go_simp
          have HQ8 := Lib.hid (HQ6.out.make #[.int .i64 0, .int .i64 tm, .bool false, .string TT, .bool false, .string ⟨#[]⟩, .slice none 0 0])
          clear HQ7 r0 r1 r2 r3 r4 r5 r6 f0 f1 f2 f3 f4 f5 f6 rl
          refine hK.out _ _ (HQ8.out.base.facts) (fun hHeld => ?_)
          clear hK K
          try simp only [Act.put, List.setIfInBounds_toArray, List.set_cons_zero, List.set_cons_succ]
          refine wpAnyH_done (by kernel_rfl) ?_ _
          clear HQ6 hHeld
          generalize (w6.alloc (.cells #[.int .i64 0, .int .i64 tm, .bool false, .string TT, .bool false, .string ⟨#[]⟩, .slice none 0 0] 34)) = w7 at *
          generalize w6.heap.size = q at *
          go_wp2_with fail
          with_reducible refine (t4 _).mono ?_
          rintro en w8 ⟨rfl, hb8⟩
          have HQ9 := Lib.hid (HQ8.out.later hb8)
          clear hb8 HQ8
          have hown : Box w8 q 34 #[.int .i64 0, .int .i64 tm, .bool false, .string TT, .bool false, .string ⟨#[]⟩, .slice none 0 0] := HQ9.out.own
          obtain ⟨⟨r0, r1, r2, r3, r4, r5, r6⟩, ⟨f0, f1, f2, f3, f4, f5, f6⟩, rl⟩ := box7 hown
          obtain ⟨⟨p0, p1, p2, p3, p4, p5, p6⟩, ⟨g0, g1, g2, g3, g4, g5, g6⟩, pl⟩ := box7 HQ9.out.base.res
          have HQ10 := Lib.hid (HQ9.out.set 5 (.string VV))
          have hfar := HQ9.out.far
          clear hown
          go_wp2_with fail
          refine bodyPost_ret (v := .tuple #[.agg #[.int .i64 0, .int .i64 tm, .bool false, .string TT, .bool false, .string VV, .slice none 0 0], .int .i64 0]) ?_ rfl ⟨rfl, ?_⟩
          · exact dent_result (W.heap.size + 1) (HQ10.out.fin _ _ _ _ _ _ _).1 _ rfl rfl
          · exact (HQ10.out.fin _ _ _ _ _ _ _).2
        · go_simp
          have HQ9 := Lib.hid (HQ5.out.make #[.int .i64 0, .int .i64 0, .bool false, .string ⟨#[]⟩, .bool false, .string ⟨#[]⟩, .slice none 0 0])
          clear HQ5
          have HQ5 := HQ9
          clear HQ9
          refine hK.out _ _ (HQ5.out.base.facts) (fun hHeld => ?_)
          clear hK K
          try simp only [Act.put, List.setIfInBounds_toArray, List.set_cons_zero, List.set_cons_succ]
          refine wpAnyH_ready (rs := [9]) (by kernel_rfl) (by simp) ?_
          refine consL rfl (by kernel_rfl) (fun K hK => ?_) AllReadyH.nil
          go_simp
          with_reducible refine (t3 _).mono ?_
          rintro en w6 ⟨rfl, hb6⟩
          have HQ6 := Lib.hid (HQ5.out.later hb6)
          clear hb6 HQ5
          refine hK.out _ _ (HQ6.out.base.facts) (fun hHeld => ?_)
          clear hK K
          try simp only [Act.put, List.setIfInBounds_toArray, List.set_cons_zero, List.set_cons_succ]
          refine takeW (i := 10) (v := ?v7027) rfl (by kernel_rfl) (by kernel_rfl) (by kernel_rfl) (fun _ _ _ h => h) (by kernel_rfl) hHeld ?hy7027 ?rest7027
          case hy7027 => (intro w hSw; (try dsimp only at hSw); go_simp; (try with_reducible rfl))
          try simp only [Act.put, List.setIfInBounds_toArray, List.set_cons_zero, List.set_cons_succ]
          refine takeW (i := 11) (v := ?v7028) rfl (by kernel_rfl) (by kernel_rfl) (by kernel_rfl) (fun _ _ _ h => h) (by kernel_rfl) hHeld ?hy7028 ?rest7028
          case hy7028 => (intro w hSw; (try dsimp only at hSw); go_simp; (try with_reducible rfl))
          try simp only [Act.put, List.setIfInBounds_toArray, List.set_cons_zero, List.set_cons_succ]
          refine wpAnyH_ready (rs := [13]) (by kernel_rfl) (by simp) ?_
          refine consL rfl (by kernel_rfl) (fun K hK => ?_) AllReadyH.nil
          obtain ⟨⟨r0, r1, r2, r3, r4, r5, r6⟩, ⟨f0, f1, f2, f3, f4, f5, f6⟩, rl⟩ := box7 HQ6.out.own
          go_simp
          have HQ8 := Lib.hid (HQ6.out.all (.int .i64 0) (.int .i64 tm) (.bool false) (.string TT) (.bool false) (.string ⟨#[]⟩) (.slice none 0 0))
          clear r0 r1 r2 r3 r4 r5 r6 f0 f1 f2 f3 f4 f5 f6 rl
          refine hK.out _ _ (HQ8.out.base.facts) (fun hHeld => ?_)
          clear hK K
          try simp only [Act.put, List.setIfInBounds_toArray, List.set_cons_zero, List.set_cons_succ]
          refine wpAnyH_done (by kernel_rfl) ?_ _
          clear HQ6 hHeld
          obtain ⟨w7, hw7⟩ : ∃ w7, (set7 w6 (w5.heap.size) (.int .i64 0) (.int .i64 tm) (.bool false) (.string TT) (.bool false) (.string ⟨#[]⟩) (.slice none 0 0)) = w7 := ⟨_, rfl⟩
          have hw8 : (((((((w6.setCell ⟨w5.heap.size, 0, none⟩ (.int .i64 0)).setCell ⟨w5.heap.size, 1, none⟩ (.int .i64 tm)).setCell ⟨w5.heap.size, 2, none⟩ (.bool false)).setCell ⟨w5.heap.size, 3, none⟩ (.string TT)).setCell ⟨w5.heap.size, 4, none⟩ (.bool false)).setCell ⟨w5.heap.size, 5, none⟩ (.string ⟨#[]⟩)).setCell ⟨w5.heap.size, 6, none⟩ (.slice none 0 0)) = w7 := hw7
          rw [hw7] at HQ8
          rw [hw8]
          clear hw7 hw8
          generalize w5.heap.size = q at *
          go_wp2_with fail
          with_reducible refine (t4 _).mono ?_
          rintro en w8 ⟨rfl, hb8⟩
          have HQ9 := Lib.hid (HQ8.out.later hb8)
          clear hb8 HQ8
          have hown : Box w8 q 34 #[.int .i64 0, .int .i64 tm, .bool false, .string TT, .bool false, .string ⟨#[]⟩, .slice none 0 0] := HQ9.out.own
          obtain ⟨⟨r0, r1, r2, r3, r4, r5, r6⟩, ⟨f0, f1, f2, f3, f4, f5, f6⟩, rl⟩ := box7 hown
          obtain ⟨⟨p0, p1, p2, p3, p4, p5, p6⟩, ⟨g0, g1, g2, g3, g4, g5, g6⟩, pl⟩ := box7 HQ9.out.base.res
          have HQ10 := Lib.hid (HQ9.out.set 5 (.string VV))
          have hfar := HQ9.out.far
          clear hown
          go_wp2_with fail
          refine bodyPost_ret (v := .tuple #[.agg #[.int .i64 0, .int .i64 tm, .bool false, .string TT, .bool false, .string VV, .slice none 0 0], .int .i64 0]) ?_ rfl ⟨rfl, ?_⟩
          · exact dent_result (W.heap.size + 1) (HQ10.out.fin _ _ _ _ _ _ _).1 _ rfl rfl
          · exact (HQ10.out.fin _ _ _ _ _ _ _).2
      · go_simp
        have HQ9 := Lib.hid (HQ4.out.make #[.int .i64 0, .int .i64 0, .bool false, .string ⟨#[]⟩, .bool false, .string ⟨#[]⟩, .slice none 0 0])
        clear HQ4
        have HQ4 := HQ9
        clear HQ9
        refine hK.out _ _ (HQ4.out.base.facts) (fun hHeld => ?_)
        clear hK K
        try simp only [Act.put, List.setIfInBounds_toArray, List.set_cons_zero, List.set_cons_succ]
        refine wpAnyH_ready (rs := [5]) (by kernel_rfl) (by simp) ?_
        refine consL rfl (by kernel_rfl) (fun K hK => ?_) AllReadyH.nil
        go_simp
        with_reducible refine (t2 _).mono ?_
        rintro en w5 ⟨rfl, hb5⟩
        have HQ5 := Lib.hid (HQ4.out.later hb5)
        clear hb5 HQ4
        refine hK.out _ _ (HQ5.out.base.facts) (fun hHeld => ?_)
        clear hK K
        try simp only [Act.put, List.setIfInBounds_toArray, List.set_cons_zero, List.set_cons_succ]
        refine takeW (i := 6) (v := ?v7029) rfl (by kernel_rfl) (by kernel_rfl) (by kernel_rfl) (fun _ _ _ h => h) (by kernel_rfl) hHeld ?hy7029 ?rest7029
        case hy7029 => (intro w hSw; (try dsimp only at hSw); go_simp; (try with_reducible rfl))
        try simp only [Act.put, List.setIfInBounds_toArray, List.set_cons_zero, List.set_cons_succ]
        refine wpAnyH_ready (rs := [9]) (by kernel_rfl) (by simp) ?_
        refine consL rfl (by kernel_rfl) (fun K hK => ?_) AllReadyH.nil
        go_simp
        with_reducible refine (t3 _).mono ?_
        rintro en w6 ⟨rfl, hb6⟩
        have HQ6 := Lib.hid (HQ5.out.later hb6)
        clear hb6 HQ5
        refine hK.out _ _ (HQ6.out.base.facts) (fun hHeld => ?_)
        clear hK K
        try simp only [Act.put, List.setIfInBounds_toArray, List.set_cons_zero, List.set_cons_succ]
        refine takeW (i := 10) (v := ?v7030) rfl (by kernel_rfl) (by kernel_rfl) (by kernel_rfl) (fun _ _ _ h => h) (by kernel_rfl) hHeld ?hy7030 ?rest7030
        case hy7030 => (intro w hSw; (try dsimp only at hSw); go_simp; (try with_reducible rfl))
        try simp only [Act.put, List.setIfInBounds_toArray, List.set_cons_zero, List.set_cons_succ]
        refine takeW (i := 11) (v := ?v7031) rfl (by kernel_rfl) (by kernel_rfl) (by kernel_rfl) (fun _ _ _ h => h) (by kernel_rfl) hHeld ?hy7031 ?rest7031
        case hy7031 => (intro w hSw; (try dsimp only at hSw); go_simp; (try with_reducible rfl))
        try simp only [Act.put, List.setIfInBounds_toArray, List.set_cons_zero, List.set_cons_succ]
        refine wpAnyH_ready (rs := [13]) (by kernel_rfl) (by simp) ?_
        refine consL rfl (by kernel_rfl) (fun K hK => ?_) AllReadyH.nil
        obtain ⟨⟨r0, r1, r2, r3, r4, r5, r6⟩, ⟨f0, f1, f2, f3, f4, f5, f6⟩, rl⟩ := box7 HQ6.out.own
        go_simp
        have HQ8 := Lib.hid (HQ6.out.all (.int .i64 0) (.int .i64 tm) (.bool false) (.string TT) (.bool false) (.string ⟨#[]⟩) (.slice none 0 0))
        clear r0 r1 r2 r3 r4 r5 r6 f0 f1 f2 f3 f4 f5 f6 rl
        refine hK.out _ _ (HQ8.out.base.facts) (fun hHeld => ?_)
        clear hK K
        try simp only [Act.put, List.setIfInBounds_toArray, List.set_cons_zero, List.set_cons_succ]
        refine wpAnyH_done (by kernel_rfl) ?_ _
        clear HQ6 hHeld
        obtain ⟨w7, hw7⟩ : ∃ w7, (set7 w6 (w4.heap.size) (.int .i64 0) (.int .i64 tm) (.bool false) (.string TT) (.bool false) (.string ⟨#[]⟩) (.slice none 0 0)) = w7 := ⟨_, rfl⟩
        have hw8 : (((((((w6.setCell ⟨w4.heap.size, 0, none⟩ (.int .i64 0)).setCell ⟨w4.heap.size, 1, none⟩ (.int .i64 tm)).setCell ⟨w4.heap.size, 2, none⟩ (.bool false)).setCell ⟨w4.heap.size, 3, none⟩ (.string TT)).setCell ⟨w4.heap.size, 4, none⟩ (.bool false)).setCell ⟨w4.heap.size, 5, none⟩ (.string ⟨#[]⟩)).setCell ⟨w4.heap.size, 6, none⟩ (.slice none 0 0)) = w7 := hw7
        rw [hw7] at HQ8
        rw [hw8]
        clear hw7 hw8
        generalize w4.heap.size = q at *
        go_wp2_with fail
        with_reducible refine (t4 _).mono ?_
        rintro en w8 ⟨rfl, hb8⟩
        have HQ9 := Lib.hid (HQ8.out.later hb8)
        clear hb8 HQ8
        have hown : Box w8 q 34 #[.int .i64 0, .int .i64 tm, .bool false, .string TT, .bool false, .string ⟨#[]⟩, .slice none 0 0] := HQ9.out.own
        obtain ⟨⟨r0, r1, r2, r3, r4, r5, r6⟩, ⟨f0, f1, f2, f3, f4, f5, f6⟩, rl⟩ := box7 hown
        obtain ⟨⟨p0, p1, p2, p3, p4, p5, p6⟩, ⟨g0, g1, g2, g3, g4, g5, g6⟩, pl⟩ := box7 HQ9.out.base.res
        have HQ10 := Lib.hid (HQ9.out.set 5 (.string VV))
        have hfar := HQ9.out.far
        clear hown
        go_wp2_with fail
        refine bodyPost_ret (v := .tuple #[.agg #[.int .i64 0, .int .i64 tm, .bool false, .string TT, .bool false, .string VV, .slice none 0 0], .int .i64 0]) ?_ rfl ⟨rfl, ?_⟩
        · exact dent_result (W.heap.size + 1) (HQ10.out.fin _ _ _ _ _ _ _).1 _ rfl rfl
        · exact (HQ10.out.fin _ _ _ _ _ _ _).2
    · go_simp
      have HQ9 := Lib.hid ((HQ.out.make #[.int .i64 0, .int .i64 0, .bool false, .string ⟨#[]⟩, .bool false, .string ⟨#[]⟩, .slice none 0 0]).later (Below.refl _ _).drew)
      clear HQ3
      have HQ3 := HQ9
      clear HQ9
      refine hK.out _ _ (HQ3.out.base.facts) (fun hHeld => ?_)
      clear hK K
      try simp only [Act.put, List.setIfInBounds_toArray, List.set_cons_zero, List.set_cons_succ]
      refine wpAnyH_ready (rs := [2]) (by kernel_rfl) (by simp) ?_
      refine consL rfl (by kernel_rfl) (fun K hK => ?_) AllReadyH.nil
      go_simp
      with_reducible refine (t1 _).mono ?_
      rintro en w4 ⟨rfl, hb4⟩
      have HQ4 := Lib.hid (HQ3.out.later hb4)
      clear hb4 HQ3
      refine hK.out _ _ (HQ4.out.base.facts) (fun hHeld => ?_)
      clear hK K
      try simp only [Act.put, List.setIfInBounds_toArray, List.set_cons_zero, List.set_cons_succ]
      refine wpAnyH_ready (rs := [5]) (by kernel_rfl) (by simp) ?_
      refine consL rfl (by kernel_rfl) (fun K hK => ?_) AllReadyH.nil
      go_simp
      with_reducible refine (t2 _).mono ?_
      rintro en w5 ⟨rfl, hb5⟩
      have HQ5 := Lib.hid (HQ4.out.later hb5)
      clear hb5 HQ4
      refine hK.out _ _ (HQ5.out.base.facts) (fun hHeld => ?_)
      clear hK K
      try simp only [Act.put, List.setIfInBounds_toArray, List.set_cons_zero, List.set_cons_succ]
      refine takeW (i := 6) (v := ?v7032) rfl (by kernel_rfl) (by kernel_rfl) (by kernel_rfl) (fun _ _ _ h => h) (by kernel_rfl) hHeld ?hy7032 ?rest7032
      case hy7032 => (intro w hSw; (try dsimp only at hSw); go_simp; (try with_reducible rfl))
      try simp only [Act.put, List.setIfInBounds_toArray, List.set_cons_zero, List.set_cons_succ]
      refine wpAnyH_ready (rs := [9]) (by kernel_rfl) (by simp) ?_
      refine consL rfl (by kernel_rfl) (fun K hK => ?_) AllReadyH.nil
      go_simp
      with_reducible refine (t3 _).mono ?_
      rintro en w6 ⟨rfl, hb6⟩
      have HQ6 := Lib.hid (HQ5.out.later hb6)
      clear hb6 HQ5
      refine hK.out _ _ (HQ6.out.base.facts) (fun hHeld => ?_)
      clear hK K
      try simp only [Act.put, List.setIfInBounds_toArray, List.set_cons_zero, List.set_cons_succ]
      refine takeW (i := 10) (v := ?v7033) rfl (by kernel_rfl) (by kernel_rfl) (by kernel_rfl) (fun _ _ _ h => h) (by kernel_rfl) hHeld ?hy7033 ?rest7033
      case hy7033 => (intro w hSw; (try dsimp only at hSw); go_simp; (try with_reducible rfl))
      try simp only [Act.put, List.setIfInBounds_toArray, List.set_cons_zero, List.set_cons_succ]
      refine takeW (i := 11) (v := ?v7034) rfl (by kernel_rfl) (by kernel_rfl) (by kernel_rfl) (fun _ _ _ h => h) (by kernel_rfl) hHeld ?hy7034 ?rest7034
      case hy7034 => (intro w hSw; (try dsimp only at hSw); go_simp; (try with_reducible rfl))
      try simp only [Act.put, List.setIfInBounds_toArray, List.set_cons_zero, List.set_cons_succ]
      refine wpAnyH_ready (rs := [13]) (by kernel_rfl) (by simp) ?_
      refine consL rfl (by kernel_rfl) (fun K hK => ?_) AllReadyH.nil
      obtain ⟨⟨r0, r1, r2, r3, r4, r5, r6⟩, ⟨f0, f1, f2, f3, f4, f5, f6⟩, rl⟩ := box7 HQ6.out.own
      go_simp
      have HQ8 := Lib.hid (HQ6.out.all (.int .i64 0) (.int .i64 tm) (.bool false) (.string TT) (.bool false) (.string ⟨#[]⟩) (.slice none 0 0))
      clear r0 r1 r2 r3 r4 r5 r6 f0 f1 f2 f3 f4 f5 f6 rl
      refine hK.out _ _ (HQ8.out.base.facts) (fun hHeld => ?_)
      clear hK K
      try simp only [Act.put, List.setIfInBounds_toArray, List.set_cons_zero, List.set_cons_succ]
      refine wpAnyH_done (by kernel_rfl) ?_ _
      clear HQ6 hHeld
      obtain ⟨w7, hw7⟩ : ∃ w7, (set7 w6 (w3.heap.size) (.int .i64 0) (.int .i64 tm) (.bool false) (.string TT) (.bool false) (.string ⟨#[]⟩) (.slice none 0 0)) = w7 := ⟨_, rfl⟩
      have hw8 : (((((((w6.setCell ⟨w3.heap.size, 0, none⟩ (.int .i64 0)).setCell ⟨w3.heap.size, 1, none⟩ (.int .i64 tm)).setCell ⟨w3.heap.size, 2, none⟩ (.bool false)).setCell ⟨w3.heap.size, 3, none⟩ (.string TT)).setCell ⟨w3.heap.size, 4, none⟩ (.bool false)).setCell ⟨w3.heap.size, 5, none⟩ (.string ⟨#[]⟩)).setCell ⟨w3.heap.size, 6, none⟩ (.slice none 0 0)) = w7 := hw7
      rw [hw7] at HQ8
      rw [hw8]
      clear hw7 hw8
      generalize w3.heap.size = q at *
      go_wp2_with fail
      with_reducible refine (t4 _).mono ?_
      rintro en w8 ⟨rfl, hb8⟩
      have HQ9 := Lib.hid (HQ8.out.later hb8)
      clear hb8 HQ8
      have hown : Box w8 q 34 #[.int .i64 0, .int .i64 tm, .bool false, .string TT, .bool false, .string ⟨#[]⟩, .slice none 0 0] := HQ9.out.own
      obtain ⟨⟨r0, r1, r2, r3, r4, r5, r6⟩, ⟨f0, f1, f2, f3, f4, f5, f6⟩, rl⟩ := box7 hown
      obtain ⟨⟨p0, p1, p2, p3, p4, p5, p6⟩, ⟨g0, g1, g2, g3, g4, g5, g6⟩, pl⟩ := box7 HQ9.out.base.res
      have HQ10 := Lib.hid (HQ9.out.set 5 (.string VV))
      have hfar := HQ9.out.far
      clear hown
      go_wp2_with fail
      refine bodyPost_ret (v := .tuple #[.agg #[.int .i64 0, .int .i64 tm, .bool false, .string TT, .bool false, .string VV, .slice none 0 0], .int .i64 0]) ?_ rfl ⟨rfl, ?_⟩
      · exact dent_result (W.heap.size + 1) (HQ10.out.fin _ _ _ _ _ _ _).1 _ rfl rfl
      · exact (HQ10.out.fin _ _ _ _ _ _ _).2
theorem dentry_c (k : KY) (a tm : Int) (W : World) (hg : k.g.size ≤ 140737488351232) (ht : k.t.size ≤ 140737488351232) : Calls Try.prog 25 #[.string k.g, .agg #[.string k.t, .int .i64 k.i], .int .i64 a, .int .i64 tm] W (Good W (.tuple #[recV (enR k a tm) none 0, .int .i64 (enE k a tm)])) := by
  unfold enR enE
  cases h : enOk k a tm with
  | true => rw [if_pos rfl, if_pos rfl]; exact dentry_good k a tm W h
  | false => rw [if_neg (by decide), if_neg (by decide)]; exact dentry_bad k a tm W hg ht h
end Go.Proofs.Ytlkhfgkgngcakaa
