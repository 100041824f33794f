/- offsets: Entry, by a contract. No condition. -/
import Derived.Test.YtlkhfgkgngcakaaOfEm
import Derived.Test.YtlkhfgkgngcakaaOfDr
import Derived.Test.YtlkhfgkgngcakaaPTake
import Derived.Test.YtlkhfgkgngcakaaTakes
namespace Go.Proofs.Ytlkhfgkgngcakaa
open Go.RowKit
set_option linter.unusedVariables false
/-- Seven cells of one block stored. -/
def set7 (w : World) (b : Nat) (v0 v1 v2 v3 v4 v5 v6 : Value) : World := ((((((w.setCell ⟨b, 0, none⟩ v0).setCell ⟨b, 1, none⟩ v1).setCell ⟨b, 2, none⟩ v2).setCell ⟨b, 3, none⟩ v3).setCell ⟨b, 4, none⟩ v4).setCell ⟨b, 5, none⟩ v5).setCell ⟨b, 6, none⟩ v6
theorem set7_box {w : World} {b t : Nat} {z0 z1 z2 z3 z4 z5 z6 : Value} (h : Box w b t #[z0, z1, z2, z3, z4, z5, z6]) (v0 v1 v2 v3 v4 v5 v6 : Value) : Box (set7 w b v0 v1 v2 v3 v4 v5 v6) b t #[v0, v1, v2, v3, v4, v5, v6] := by
  unfold set7
  have h0 : Box _ b t #[v0, z1, z2, z3, z4, z5, z6] := h.set 0 v0
  have h1 : Box _ b t #[v0, v1, z2, z3, z4, z5, z6] := h0.set 1 v1
  have h2 : Box _ b t #[v0, v1, v2, z3, z4, z5, z6] := h1.set 2 v2
  have h3 : Box _ b t #[v0, v1, v2, v3, z4, z5, z6] := h2.set 3 v3
  have h4 : Box _ b t #[v0, v1, v2, v3, v4, z5, z6] := h3.set 4 v4
  have h5 : Box _ b t #[v0, v1, v2, v3, v4, v5, z6] := h4.set 5 v5
  have h6 : Box _ b t #[v0, v1, v2, v3, v4, v5, v6] := h5.set 6 v6
  exact h6
theorem set7_off (w : World) (b : Nat) (v0 v1 v2 v3 v4 v5 v6 : Value) : Off (· = b) w (set7 w b v0 v1 v2 v3 v4 v5 v6) := by
  unfold set7
  have h0 := Off.refl (· = b) w
  have h1 := h0.set (p := ⟨b, 0, none⟩) (.inl rfl) v0
  have h2 := h1.set (p := ⟨b, 1, none⟩) (.inl rfl) v1
  have h3 := h2.set (p := ⟨b, 2, none⟩) (.inl rfl) v2
  have h4 := h3.set (p := ⟨b, 3, none⟩) (.inl rfl) v3
  have h5 := h4.set (p := ⟨b, 4, none⟩) (.inl rfl) v4
  have h6 := h5.set (p := ⟨b, 5, none⟩) (.inl rfl) v5
  have h7 := h6.set (p := ⟨b, 6, none⟩) (.inl rfl) v6
  exact h7
theorem ent_result {w : World} (g : Nat) {e : Int} {v0 v1 v2 v3 v4 v5 v6 : Value} (h : Box w g 34 #[v0, v1, v2, v3, v4, v5, v6]) (tmps : Array Value) (ht : (tmps[6]?).getD undef = .pointer (some ⟨g, 0, none⟩)) (he : (tmps[7]?).getD undef = .int .i64 e) :
    (results Try.f18 tmps).run Try.prog w = .ok (.tuple #[.agg #[v0, v1, v2, v3, v4, v5, v6], .int .i64 e]) w := by
  have c0 := (h.cell 0).trans (show _ = some v0 from rfl)
  have c1 := (h.cell 1).trans (show _ = some v1 from rfl)
  have c2 := (h.cell 2).trans (show _ = some v2 from rfl)
  have c3 := (h.cell 3).trans (show _ = some v3 from rfl)
  have c4 := (h.cell 4).trans (show _ = some v4 from rfl)
  have c5 := (h.cell 5).trans (show _ = some v5 from rfl)
  have c6 := (h.cell 6).trans (show _ = some v6 from rfl)
  simp [results, Try.results18, go_sem, ht, he, c0, c1, c2, c3, c4, c5, c6]
def recZ : Array Value := #[.int .i64 0, .int .i64 0, .bool false, .string ⟨#[]⟩, .bool false, .string ⟨#[]⟩, .slice none 0 0]
/-- While Entry goes on: the key's box, the result's. -/
structure EnI (W : World) (k : KY) (w : World) : Prop where
  key : Box w W.heap.size 45 #[.string k.g, .string k.t, .int .i64 k.i]
  res : Box w (W.heap.size + 1) 34 recZ
  below : Below W.heap.size W w
theorem EnI.later {W w w' : World} {k : KY} (h : EnI W k w) (hb : Below w.heap.size w w') : EnI W k w' := ⟨h.key.later hb, h.res.later hb, h.below.trans (hb.mono h.below.size)⟩
theorem EnI.start (W : World) (k : KY) : EnI W k ((W.alloc (.cells #[.string k.g, .string k.t, .int .i64 k.i] 45)).alloc (.cells #[.int .i64 0, .int .i64 0, .bool false, .string ⟨#[]⟩, .bool false, .string ⟨#[]⟩, .slice none 0 0] 34)) := by
  have hB := (Below.refl W.heap.size W).alloc (Nat.le_refl _) (.cells #[.string k.g, .string k.t, .int .i64 k.i] 45)
  have hb2 := Box.new (W.alloc (.cells #[.string k.g, .string k.t, .int .i64 k.i] 45)) 34 #[.int .i64 0, .int .i64 0, .bool false, .string ⟨#[]⟩, .bool false, .string ⟨#[]⟩, .slice none 0 0]
  rw [World.size_alloc] at hb2
  have hB2 := (Below.refl (W.alloc (.cells #[.string k.g, .string k.t, .int .i64 k.i] 45)).heap.size (W.alloc (.cells #[.string k.g, .string k.t, .int .i64 k.i] 45))).alloc (Nat.le_refl _) (.cells #[.int .i64 0, .int .i64 0, .bool false, .string ⟨#[]⟩, .bool false, .string ⟨#[]⟩, .slice none 0 0] 34)
  exact ⟨(Box.new W 45 #[.string k.g, .string k.t, .int .i64 k.i]).later hB2, hb2, hB.trans (hB2.mono (by simp))⟩
theorem box7 {w : World} {b : Nat} {t : TypeId} {v0 v1 v2 v3 v4 v5 v6 : Value} (h : Box w b t #[v0, v1, v2, v3, v4, v5, v6]) : (w.cell? ⟨b, 0, none⟩ = some v0 ∧ w.cell? ⟨b, 1, none⟩ = some v1 ∧ w.cell? ⟨b, 2, none⟩ = some v2 ∧ w.cell? ⟨b, 3, none⟩ = some v3 ∧ w.cell? ⟨b, 4, none⟩ = some v4 ∧ w.cell? ⟨b, 5, none⟩ = some v5 ∧ w.cell? ⟨b, 6, none⟩ = some v6) ∧
    (w.frozen? ⟨b, 0, none⟩ = false ∧ w.frozen? ⟨b, 1, none⟩ = false ∧ w.frozen? ⟨b, 2, none⟩ = false ∧ w.frozen? ⟨b, 3, none⟩ = false ∧ w.frozen? ⟨b, 4, none⟩ = false ∧ w.frozen? ⟨b, 5, none⟩ = false ∧ w.frozen? ⟨b, 6, none⟩ = false) ∧ b < w.heap.size :=
  ⟨⟨(h.cell 0).trans rfl, (h.cell 1).trans rfl, (h.cell 2).trans rfl, (h.cell 3).trans rfl, (h.cell 4).trans rfl, (h.cell 5).trans rfl, (h.cell 6).trans rfl⟩, ⟨h.frozen 0, h.frozen 1, h.frozen 2, h.frozen 3, h.frozen 4, h.frozen 5, h.frozen 6⟩, h.lt⟩
theorem ent_fin {W w : World} {k : KY} (h : EnI W k w) (v0 v1 v2 v3 v4 v5 v6 : Value) : Box (set7 w (W.heap.size + 1) v0 v1 v2 v3 v4 v5 v6) (W.heap.size + 1) 34 #[v0, v1, v2, v3, v4, v5, v6] ∧ Below W.heap.size W (set7 w (W.heap.size + 1) v0 v1 v2 v3 v4 v5 v6) :=
  ⟨set7_box h.res _ _ _ _ _ _ _, h.below.trans ((set7_off w (W.heap.size + 1) _ _ _ _ _ _ _).below h.below.size (fun k hk => by omega))⟩
set_option maxHeartbeats 4000000 in
set_option maxRecDepth 100000 in
theorem entry_bad (k : KY) (a tm : Int) (W : World) (h : enOk k a tm = false) : Calls Try.prog 18 #[.agg #[.string k.g, .string k.t, .int .i64 k.i], .int .i64 a, .int .i64 tm] W (Good W (.tuple #[recV recZero none 0, .int .i64 1])) := by
  have H := Lib.hid (EnI.start W k)
  have cm := fun w => kmay_c k w
  have c1 := fun w => within_c tm 0 1099511627776 w
  have c2 := fun w => within_c a 0 1099511627776 w
  obtain ⟨y0, y1, y2, yl, _, _, _⟩ := ky3 H.out.key
  obtain ⟨⟨r0, r1, r2, r3, r4, r5, r6⟩, ⟨f0, f1, f2, f3, f4, f5, f6⟩, rl⟩ := box7 H.out.res
  unfold enOk at h
  have HB : ∀ w, Below (_) _ w → EnI W k w := fun w hb => H.out.later hb
  have HA := Lib.hid (HB _ ((Below.refl _ _).alloc (Nat.le_refl _) (.cells #[.string k.g, .string k.t, .int .i64 k.i] 45)))
  clear HB y0 y1 y2 yl
  have k0 := (H.out.key.cell 0).trans (show _ = some (Value.string k.g) from rfl)
  have k1 := (H.out.key.cell 1).trans (show _ = some (Value.string k.t) from rfl)
  have k2 := (H.out.key.cell 2).trans (show _ = some (Value.int .i64 k.i) from rfl)
  cases hm : mayK k with
  | false =>
    rw [hm] at cm
    clear h hm
    go_enter Try.func18, Try.ntmps18
    go_wp2_with fail
    with_reducible refine (cm _).mono ?_
    rintro en w1 ⟨rfl, rfl⟩
    go_wp2_with fail
    refine bodyPost_ret (v := .tuple #[recV recZero none 0, .int .i64 1]) ?_ rfl ⟨rfl, HA.out.below⟩
    exact ent_result _ HA.out.res _ rfl rfl
  | true =>
    rw [hm] at cm h
    cases ht : witB tm 0 1099511627776 with
    | false =>
      rw [ht] at c1
      clear h hm ht
      go_enter Try.func18, Try.ntmps18
      go_wp2_with fail
      with_reducible refine (cm _).mono ?_
      rintro en w1 ⟨rfl, rfl⟩
      go_wp2_with fail
      with_reducible refine (c1 _).mono ?_
      rintro en w1 ⟨rfl, rfl⟩
      go_wp2_with fail
      refine bodyPost_ret (v := .tuple #[recV recZero none 0, .int .i64 1]) ?_ rfl ⟨rfl, HA.out.below⟩
      exact ent_result _ HA.out.res _ rfl rfl
    | true =>
      rw [ht] at c1 h
      have hne : ¬ a = -1 := fun e => by simp [e] at h
      have hw : witB a 0 1099511627776 = false := by simpa [hne] using h
      rw [hw] at c2
      clear h hm ht hw
      go_enter Try.func18, Try.ntmps18
      go_wp2_with fail
      with_reducible refine (cm _).mono ?_
      rintro en w1 ⟨rfl, rfl⟩
      go_wp2_with fail
      with_reducible refine (c1 _).mono ?_
      rintro en w1 ⟨rfl, rfl⟩
      go_wp2_with fail
      with_reducible refine (c2 _).mono ?_
      rintro en w1 ⟨rfl, rfl⟩
      go_wp2_with fail
      refine bodyPost_ret (v := .tuple #[recV recZero none 0, .int .i64 1]) ?_ rfl ⟨rfl, HA.out.below⟩
      exact ent_result _ HA.out.res _ rfl rfl
/-- While Entry goes on: the record's own box too. -/
structure EnJ (W : World) (k : KY) (q : Nat) (cs : Array Value) (w : World) : Prop where
  base : EnI W k w
  own : Box w q 34 cs
  far : W.heap.size + 1 < q
theorem EnJ.later {W w w' : World} {k : KY} {q : Nat} {cs : Array Value} (h : EnJ W k q cs w) (hb : Below w.heap.size w w') : EnJ W k q cs w' := ⟨h.base.later hb, h.own.later hb, h.far⟩
theorem EnJ.drew {W w : World} {k : KY} {q : Nat} {cs : Array Value} (h : EnJ W k q cs w) : EnJ W k q cs w.drew := h.later (Below.refl _ _).drew
theorem EnJ.set {W w : World} {k : KY} {q : Nat} {cs : Array Value} (h : EnJ W k q cs w) (i : Nat) (u : Value) : EnJ W k q (cs.setIfInBounds i u) (w.setCell ⟨q, i, none⟩ u) := by
  have hq := h.far
  exact ⟨⟨h.base.key.far (by show W.heap.size ≠ q; omega) u, h.base.res.far (by show W.heap.size + 1 ≠ q; omega) u, h.base.below.trans ((Off.one w ⟨q, i, none⟩ u).below h.base.below.size (fun j hj => by have e : j = q := hj; omega))⟩, h.own.set i u, h.far⟩
theorem EnJ.fin {W w : World} {k : KY} {q : Nat} {cs : Array Value} (h : EnJ W k q cs w) (v0 v1 v2 v3 v4 v5 v6 : Value) : Box (set7 w (W.heap.size + 1) v0 v1 v2 v3 v4 v5 v6) (W.heap.size + 1) 34 #[v0, v1, v2, v3, v4, v5, v6] ∧ Below W.heap.size W (set7 w (W.heap.size + 1) v0 v1 v2 v3 v4 v5 v6) := ent_fin h.base _ _ _ _ _ _ _
theorem EnJ.facts {W w : World} {k : KY} {q : Nat} {cs : Array Value} (h : EnJ W k q cs w) : w.cell? ⟨W.heap.size, 0, none⟩ = some (.string k.g) ∧ w.cell? ⟨W.heap.size, 1, none⟩ = some (.string k.t) ∧ w.cell? ⟨W.heap.size, 2, none⟩ = some (.int .i64 k.i) := ⟨(h.base.key.cell 0).trans rfl, (h.base.key.cell 1).trans rfl, (h.base.key.cell 2).trans rfl⟩
theorem key_join (k : KY) : (textG k.g ++ textG k.t) ++ (⟨(putL k.i).toArray⟩ : ByteArray) = ⟨(enKey k).toArray⟩ := by
  apply ByteArray.ext
  apply Array.ext'
  simp [enKey, txt, textG, List.append_assoc]
set_option maxHeartbeats 8000000 in
set_option maxRecDepth 100000 in
theorem entry_good (k : KY) (a tm : Int) (W : World) (h : enOk k a tm = true) : Calls Try.prog 18 #[.agg #[.string k.g, .string k.t, .int .i64 k.i], .int .i64 a, .int .i64 tm] W (Good W (.tuple #[recV (enRec k a tm) none 0, .int .i64 0])) := by
  obtain ⟨hm, htm, ha⟩ := enOk_parts h
  obtain ⟨hg, ht, hi⟩ := mayK_parts hm
  have H := Lib.hid (EnI.start W k)
  have cm := fun w => kmay_c k w
  have c1 := fun w => within_c tm 0 1099511627776 w
  rw [hm] at cm
  have hw1 : witB tm 0 1099511627776 = true := by unfold witB; rw [decide_eq_true htm.1, decide_eq_true htm.2]; rfl
  rw [hw1] at c1
  have t1 := fun w => text_c k.g w (by omega)
  have t2 := fun w => text_c k.t w (by omega)
  have t3 := fun w => put_c k.i w (by omega) (by omega)
  have s1 : (textG k.g).size ≤ 110 := by rw [← txt_textG]; exact txt_size (by omega)
  have s2 : (textG k.t).size ≤ 110 := by rw [← txt_textG]; exact txt_size (by omega)
  have s3 : (⟨(putL k.i).toArray⟩ : ByteArray).size ≤ 10 := put_size k.i
  have HJ := Lib.hid (key_join k)
  generalize textG k.g = T1 at *
  generalize textG k.t = T2 at *
  generalize (⟨(putL k.i).toArray⟩ : ByteArray) = T3 at *
  have hadd1 : ∀ w, (Op.stringOp .add T1 T2).run Try.prog w = .ok (.string (T1 ++ T2)) w := fun w => add_run s1 s2 (by omega) w
  have hadd2 : ∀ w, (Op.stringOp .add (T1 ++ T2) T3).run Try.prog w = .ok (.string (T1 ++ T2 ++ T3)) w := fun w => add_run (cat_le s1 s2) s3 (by omega) w
  obtain ⟨TT, hTT⟩ : ∃ TT, T1 ++ T2 ++ T3 = TT := ⟨_, rfl⟩
  rw [hTT] at hadd2 HJ
  obtain ⟨T12, hT12⟩ : ∃ T12, T1 ++ T2 = T12 := ⟨_, rfl⟩
  rw [hT12] at hadd1 hadd2
  clear s1 s2 s3 hTT hT12 hm hg ht hi htm hw1
  obtain ⟨y0, y1, y2, yl, _, _, _⟩ := ky3 H.out.key
  obtain ⟨⟨r0, r1, r2, r3, r4, r5, r6⟩, ⟨f0, f1, f2, f3, f4, f5, f6⟩, rl⟩ := box7 H.out.res
  have hA := H.out.later ((Below.refl _ _).alloc (Nat.le_refl _) (.cells #[.string k.g, .string k.t, .int .i64 k.i] 45))
  have hA2 := hA.later ((Below.refl _ _).alloc (Nat.le_refl _) (.cells #[.int .i64 0, .int .i64 tm, .bool false, .string ⟨#[]⟩, .bool false, .string ⟨#[]⟩, .slice none 0 0] 34))
  have HQ := Lib.hid (show EnJ W k (W.heap.size + 1 + 1 + 1) #[.int .i64 0, .int .i64 tm, .bool false, .string ⟨#[]⟩, .bool false, .string ⟨#[]⟩, .slice none 0 0] _ from ⟨hA2, by have := Box.new ((((W.alloc (.cells #[.string k.g, .string k.t, .int .i64 k.i] 45)).alloc (.cells #[.int .i64 0, .int .i64 0, .bool false, .string ⟨#[]⟩, .bool false, .string ⟨#[]⟩, .slice none 0 0] 34)).alloc (.cells #[.string k.g, .string k.t, .int .i64 k.i] 45))) 34 #[.int .i64 0, .int .i64 tm, .bool false, .string ⟨#[]⟩, .bool false, .string ⟨#[]⟩, .slice none 0 0]; simpa using this, by omega⟩)
  clear hA hA2
  by_cases hn : a = -1
  · subst hn
    clear h ha
    go_enter Try.func18, Try.ntmps18
    go_wp2_with fail
    with_reducible refine (cm _).mono ?_
    rintro en w1 ⟨rfl, rfl⟩
    go_wp2_with fail
    with_reducible refine (c1 _).mono ?_
    rintro en w1 ⟨rfl, rfl⟩
    clear y0 y1 y2 yl r0 r1 r2 r3 r4 r5 r6 f0 f1 f2 f3 f4 f5 f6 rl H
    go_wp2_with fail
    generalize ((((W.alloc (.cells #[.string k.g, .string k.t, .int .i64 k.i] 45)).alloc (.cells #[.int .i64 0, .int .i64 0, .bool false, .string ⟨#[]⟩, .bool false, .string ⟨#[]⟩, .slice none 0 0] 34)).alloc (.cells #[.string k.g, .string k.t, .int .i64 k.i] 45)).alloc (.cells #[.int .i64 0, .int .i64 tm, .bool false, .string ⟨#[]⟩, .bool false, .string ⟨#[]⟩, .slice none 0 0] 34)) = w3 at *
    generalize W.heap.size + 1 + 1 + 1 = q at *
    have hS0 := HQ.out.drew.facts
    refine wp_region_held_drew (S := (fun w => w.cell? ⟨W.heap.size, 0, none⟩ = some (.string k.g) ∧ w.cell? ⟨W.heap.size, 1, none⟩ = some (.string k.t) ∧ w.cell? ⟨W.heap.size, 2, none⟩ = some (.int .i64 k.i))) (by kernel_rfl) hS0 (fun hHeld => ?_)
    refine takeW (i := 0) (v := ?v1) rfl (by kernel_rfl) (by kernel_rfl) (by kernel_rfl) (fun _ _ _ h => h) (by kernel_rfl) hHeld ?hy1 ?rest1
    case hy1 => (intro w hSw; (try dsimp only at hSw); go_simp; (try with_reducible rfl))
    try simp only [Act.put, List.setIfInBounds_toArray, List.set_cons_zero, List.set_cons_succ]
    refine takeW (i := 1) (v := ?v2) rfl (by kernel_rfl) (by kernel_rfl) (by kernel_rfl) (fun _ _ _ h => h) (by kernel_rfl) hHeld ?hy2 ?rest2
    case hy2 => (intro w hSw; (try dsimp only at hSw); go_simp; (try with_reducible rfl))
    try simp only [Act.put, List.setIfInBounds_toArray, List.set_cons_zero, List.set_cons_succ]
    refine takeW (i := 3) (v := ?v3) rfl (by kernel_rfl) (by kernel_rfl) (by kernel_rfl) (fun _ _ _ h => h) (by kernel_rfl) hHeld ?hy3 ?rest3
    case hy3 => (intro w hSw; (try dsimp only at hSw); go_simp; (try with_reducible rfl))
    try simp only [Act.put, List.setIfInBounds_toArray, List.set_cons_zero, List.set_cons_succ]
    refine takeW (i := 4) (v := ?v4) rfl (by kernel_rfl) (by kernel_rfl) (by kernel_rfl) (fun _ _ _ h => h) (by kernel_rfl) hHeld ?hy4 ?rest4
    case hy4 => (intro w hSw; (try dsimp only at hSw); go_simp; (try with_reducible rfl))
    try simp only [Act.put, List.setIfInBounds_toArray, List.set_cons_zero, List.set_cons_succ]
    refine takeW (i := 5) (v := ?v5) rfl (by kernel_rfl) (by kernel_rfl) (by kernel_rfl) (fun _ _ _ h => h) (by kernel_rfl) hHeld ?hy5 ?rest5
    case hy5 => (intro w hSw; (try dsimp only at hSw); go_simp; (try with_reducible rfl))
    try simp only [Act.put, List.setIfInBounds_toArray, List.set_cons_zero, List.set_cons_succ]
    refine takeW (i := 8) (v := ?v6) rfl (by kernel_rfl) (by kernel_rfl) (by kernel_rfl) (fun _ _ _ h => h) (by kernel_rfl) hHeld ?hy6 ?rest6
    case hy6 => (intro w hSw; (try dsimp only at hSw); go_simp; (try with_reducible rfl))
    try simp only [Act.put, List.setIfInBounds_toArray, List.set_cons_zero, List.set_cons_succ]
    refine takeW (i := 9) (v := ?v7) rfl (by kernel_rfl) (by kernel_rfl) (by kernel_rfl) (fun _ _ _ h => h) (by kernel_rfl) hHeld ?hy7 ?rest7
    case hy7 => (intro w hSw; (try dsimp only at hSw); go_simp; (try with_reducible rfl))
    try simp only [Act.put, List.setIfInBounds_toArray, List.set_cons_zero, List.set_cons_succ]
    refine takeW (i := 10) (v := ?v8) rfl (by kernel_rfl) (by kernel_rfl) (by kernel_rfl) (fun _ _ _ h => h) (by kernel_rfl) hHeld ?hy8 ?rest8
    case hy8 => (intro w hSw; (try dsimp only at hSw); go_simp; (try with_reducible rfl))
    try simp only [Act.put, List.setIfInBounds_toArray, List.set_cons_zero, List.set_cons_succ]
    refine wpAnyH_ready (rs := [2]) (by kernel_rfl) (by simp) ?_
    refine consL rfl (by kernel_rfl) (fun K hK => ?_) AllReadyH.nil
    go_simp
    with_reducible refine (t1 _).mono ?_
    rintro en w4 ⟨rfl, hb4⟩
    have HQ4 := Lib.hid (HQ.out.drew.later hb4)
    clear hb4
    refine hK.out _ _ (HQ4.out.facts) (fun hHeld => ?_)
    clear hK K
    try simp only [Act.put, List.setIfInBounds_toArray, List.set_cons_zero, List.set_cons_succ]
    refine wpAnyH_ready (rs := [6]) (by kernel_rfl) (by simp) ?_
    refine consL rfl (by kernel_rfl) (fun K hK => ?_) AllReadyH.nil
    go_simp
    with_reducible refine (t2 _).mono ?_
    rintro en w5 ⟨rfl, hb5⟩
    have HQ5 := Lib.hid (HQ4.out.later hb5)
    clear hb5
    refine hK.out _ _ (HQ5.out.facts) (fun hHeld => ?_)
    clear hK K
    try simp only [Act.put, List.setIfInBounds_toArray, List.set_cons_zero, List.set_cons_succ]
    refine takeW (i := 7) (v := ?v9) rfl (by kernel_rfl) (by kernel_rfl) (by kernel_rfl) (fun _ _ _ h => h) (by kernel_rfl) hHeld ?hy9 ?rest9
    case hy9 => (intro w hSw; (try dsimp only at hSw); go_simp; (try with_reducible rfl))
    try simp only [Act.put, List.setIfInBounds_toArray, List.set_cons_zero, List.set_cons_succ]
    refine wpAnyH_ready (rs := [11]) (by kernel_rfl) (by simp) ?_
    refine consL rfl (by kernel_rfl) (fun K hK => ?_) AllReadyH.nil
    go_simp
    with_reducible refine (t3 _).mono ?_
    rintro en w6 ⟨rfl, hb6⟩
    have HQ6 := Lib.hid (HQ5.out.later hb6)
    clear hb6
    refine hK.out _ _ (HQ6.out.facts) (fun hHeld => ?_)
    clear hK K
    try simp only [Act.put, List.setIfInBounds_toArray, List.set_cons_zero, List.set_cons_succ]
    refine takeW (i := 12) (v := ?v10) rfl (by kernel_rfl) (by kernel_rfl) (by kernel_rfl) (fun _ _ _ h => h) (by kernel_rfl) hHeld ?hy10 ?rest10
    case hy10 => (intro w hSw; (try dsimp only at hSw); go_simp; (try with_reducible rfl))
    try simp only [Act.put, List.setIfInBounds_toArray, List.set_cons_zero, List.set_cons_succ]
    refine takeW (i := 13) (v := ?v11) rfl (by kernel_rfl) (by kernel_rfl) (by kernel_rfl) (fun _ _ _ h => h) (by kernel_rfl) hHeld ?hy11 ?rest11
    case hy11 => (intro w hSw; (try dsimp only at hSw); go_simp; (try with_reducible rfl))
    try simp only [Act.put, List.setIfInBounds_toArray, List.set_cons_zero, List.set_cons_succ]
    refine wpAnyH_ready (rs := [14]) (by kernel_rfl) (by simp) ?_
    refine consL rfl (by kernel_rfl) (fun K hK => ?_) AllReadyH.nil
    obtain ⟨⟨r0, r1, r2, r3, r4, r5, r6⟩, ⟨f0, f1, f2, f3, f4, f5, f6⟩, rl⟩ := box7 HQ6.out.own
    go_simp
    have HQ7 := Lib.hid (HQ6.out.set 3 (.string TT))
    clear r0 r1 r2 r3 r4 r5 r6 f0 f1 f2 f3 f4 f5 f6 rl
    refine hK.out _ _ (HQ7.out.facts) (fun hHeld => ?_)
    clear hK K
    try simp only [Act.put, List.setIfInBounds_toArray, List.set_cons_zero, List.set_cons_succ]
    refine wpAnyH_done (by kernel_rfl) ?_ _
    generalize (w6.setCell ⟨q, 3, none⟩ (.string TT)) = w7 at *
    have hown : Box w7 q 34 #[.int .i64 0, .int .i64 tm, .bool false, .string TT, .bool false, .string ⟨#[]⟩, .slice none 0 0] := HQ7.out.own
    obtain ⟨⟨r0, r1, r2, r3, r4, r5, r6⟩, ⟨f0, f1, f2, f3, f4, f5, f6⟩, rl⟩ := box7 hown
    obtain ⟨⟨p0, p1, p2, p3, p4, p5, p6⟩, ⟨g0, g1, g2, g3, g4, g5, g6⟩, pl⟩ := box7 HQ7.out.base.res
    have HQ8 := Lib.hid (HQ7.out.set 4 (.bool true))
    have hfar := HQ7.out.far
    have hr : recV (enRec k (-1) tm) none 0 = .agg #[.int .i64 0, .int .i64 tm, .bool false, .string TT, .bool true, .string ⟨#[]⟩, .slice none 0 0] := by
      unfold enRec recV recC
      rw [← HJ.out]
      rfl
    have HRR := Lib.hid hr
    clear hown HQ4 HQ5 HQ6 hHeld hr
    go_wp2_with fail
    refine bodyPost_ret (v := .tuple #[.agg #[.int .i64 0, .int .i64 tm, .bool false, .string TT, .bool true, .string ⟨#[]⟩, .slice none 0 0], .int .i64 0]) ?_ rfl ⟨by rw [HRR.out], ?_⟩
    · exact ent_result (W.heap.size + 1) (HQ8.out.fin _ _ _ _ _ _ _).1 _ rfl rfl
    · exact (HQ8.out.fin _ _ _ _ _ _ _).2
  · have hw2 : witB a 0 1099511627776 = true := by unfold witB; rw [decide_eq_true (show 0 ≤ a by omega), decide_eq_true ha.2]; rfl
    have c2 := fun w => within_c a 0 1099511627776 w
    rw [hw2] at c2
    have t4 := fun w => put_c a w (by omega) (by omega)
    clear h ha hw2
    have hr : recV (enRec k a tm) none 0 = .agg #[.int .i64 0, .int .i64 tm, .bool false, .string TT, .bool false, .string ⟨(putL a).toArray⟩, .slice none 0 0] := by
      unfold enRec recV recC
      rw [← HJ.out, if_neg hn, decide_eq_false hn]
      rfl
    rw [hr]
    clear hr
    generalize (⟨(putL a).toArray⟩ : ByteArray) = VV at *
    go_enter Try.func18, Try.ntmps18
    go_wp2_with fail
    with_reducible refine (cm _).mono ?_
    rintro en w1 ⟨rfl, rfl⟩
    go_wp2_with fail
    with_reducible refine (c1 _).mono ?_
    rintro en w1 ⟨rfl, rfl⟩
    go_wp2_with fail
    with_reducible refine (c2 _).mono ?_
    rintro en w1 ⟨rfl, rfl⟩
    clear y0 y1 y2 yl r0 r1 r2 r3 r4 r5 r6 f0 f1 f2 f3 f4 f5 f6 rl H
    go_wp2_with fail
    generalize ((((W.alloc (.cells #[.string k.g, .string k.t, .int .i64 k.i] 45)).alloc (.cells #[.int .i64 0, .int .i64 0, .bool false, .string ⟨#[]⟩, .bool false, .string ⟨#[]⟩, .slice none 0 0] 34)).alloc (.cells #[.string k.g, .string k.t, .int .i64 k.i] 45)).alloc (.cells #[.int .i64 0, .int .i64 tm, .bool false, .string ⟨#[]⟩, .bool false, .string ⟨#[]⟩, .slice none 0 0] 34)) = w3 at *
    generalize W.heap.size + 1 + 1 + 1 = q at *
    have hS0 := HQ.out.drew.facts
    refine wp_region_held_drew (S := (fun w => w.cell? ⟨W.heap.size, 0, none⟩ = some (.string k.g) ∧ w.cell? ⟨W.heap.size, 1, none⟩ = some (.string k.t) ∧ w.cell? ⟨W.heap.size, 2, none⟩ = some (.int .i64 k.i))) (by kernel_rfl) hS0 (fun hHeld => ?_)
    refine takeW (i := 0) (v := ?v12) rfl (by kernel_rfl) (by kernel_rfl) (by kernel_rfl) (fun _ _ _ h => h) (by kernel_rfl) hHeld ?hy12 ?rest12
    case hy12 => (intro w hSw; (try dsimp only at hSw); go_simp; (try with_reducible rfl))
    try simp only [Act.put, List.setIfInBounds_toArray, List.set_cons_zero, List.set_cons_succ]
    refine takeW (i := 1) (v := ?v13) rfl (by kernel_rfl) (by kernel_rfl) (by kernel_rfl) (fun _ _ _ h => h) (by kernel_rfl) hHeld ?hy13 ?rest13
    case hy13 => (intro w hSw; (try dsimp only at hSw); go_simp; (try with_reducible rfl))
    try simp only [Act.put, List.setIfInBounds_toArray, List.set_cons_zero, List.set_cons_succ]
    refine takeW (i := 3) (v := ?v14) rfl (by kernel_rfl) (by kernel_rfl) (by kernel_rfl) (fun _ _ _ h => h) (by kernel_rfl) hHeld ?hy14 ?rest14
    case hy14 => (intro w hSw; (try dsimp only at hSw); go_simp; (try with_reducible rfl))
    try simp only [Act.put, List.setIfInBounds_toArray, List.set_cons_zero, List.set_cons_succ]
    refine takeW (i := 4) (v := ?v15) rfl (by kernel_rfl) (by kernel_rfl) (by kernel_rfl) (fun _ _ _ h => h) (by kernel_rfl) hHeld ?hy15 ?rest15
    case hy15 => (intro w hSw; (try dsimp only at hSw); go_simp; (try with_reducible rfl))
    try simp only [Act.put, List.setIfInBounds_toArray, List.set_cons_zero, List.set_cons_succ]
    refine takeW (i := 5) (v := ?v16) rfl (by kernel_rfl) (by kernel_rfl) (by kernel_rfl) (fun _ _ _ h => h) (by kernel_rfl) hHeld ?hy16 ?rest16
    case hy16 => (intro w hSw; (try dsimp only at hSw); go_simp; (try with_reducible rfl))
    try simp only [Act.put, List.setIfInBounds_toArray, List.set_cons_zero, List.set_cons_succ]
    refine takeW (i := 8) (v := ?v17) rfl (by kernel_rfl) (by kernel_rfl) (by kernel_rfl) (fun _ _ _ h => h) (by kernel_rfl) hHeld ?hy17 ?rest17
    case hy17 => (intro w hSw; (try dsimp only at hSw); go_simp; (try with_reducible rfl))
    try simp only [Act.put, List.setIfInBounds_toArray, List.set_cons_zero, List.set_cons_succ]
    refine takeW (i := 9) (v := ?v18) rfl (by kernel_rfl) (by kernel_rfl) (by kernel_rfl) (fun _ _ _ h => h) (by kernel_rfl) hHeld ?hy18 ?rest18
    case hy18 => (intro w hSw; (try dsimp only at hSw); go_simp; (try with_reducible rfl))
    try simp only [Act.put, List.setIfInBounds_toArray, List.set_cons_zero, List.set_cons_succ]
    refine takeW (i := 10) (v := ?v19) rfl (by kernel_rfl) (by kernel_rfl) (by kernel_rfl) (fun _ _ _ h => h) (by kernel_rfl) hHeld ?hy19 ?rest19
    case hy19 => (intro w hSw; (try dsimp only at hSw); go_simp; (try with_reducible rfl))
    try simp only [Act.put, List.setIfInBounds_toArray, List.set_cons_zero, List.set_cons_succ]
    refine wpAnyH_ready (rs := [2]) (by kernel_rfl) (by simp) ?_
    refine consL rfl (by kernel_rfl) (fun K hK => ?_) AllReadyH.nil
    go_simp
    with_reducible refine (t1 _).mono ?_
    rintro en w4 ⟨rfl, hb4⟩
    have HQ4 := Lib.hid (HQ.out.drew.later hb4)
    clear hb4
    refine hK.out _ _ (HQ4.out.facts) (fun hHeld => ?_)
    clear hK K
    try simp only [Act.put, List.setIfInBounds_toArray, List.set_cons_zero, List.set_cons_succ]
    refine wpAnyH_ready (rs := [6]) (by kernel_rfl) (by simp) ?_
    refine consL rfl (by kernel_rfl) (fun K hK => ?_) AllReadyH.nil
    go_simp
    with_reducible refine (t2 _).mono ?_
    rintro en w5 ⟨rfl, hb5⟩
    have HQ5 := Lib.hid (HQ4.out.later hb5)
    clear hb5
    refine hK.out _ _ (HQ5.out.facts) (fun hHeld => ?_)
    clear hK K
    try simp only [Act.put, List.setIfInBounds_toArray, List.set_cons_zero, List.set_cons_succ]
    refine takeW (i := 7) (v := ?v20) rfl (by kernel_rfl) (by kernel_rfl) (by kernel_rfl) (fun _ _ _ h => h) (by kernel_rfl) hHeld ?hy20 ?rest20
    case hy20 => (intro w hSw; (try dsimp only at hSw); go_simp; (try with_reducible rfl))
    try simp only [Act.put, List.setIfInBounds_toArray, List.set_cons_zero, List.set_cons_succ]
    refine wpAnyH_ready (rs := [11]) (by kernel_rfl) (by simp) ?_
    refine consL rfl (by kernel_rfl) (fun K hK => ?_) AllReadyH.nil
    go_simp
    with_reducible refine (t3 _).mono ?_
    rintro en w6 ⟨rfl, hb6⟩
    have HQ6 := Lib.hid (HQ5.out.later hb6)
    clear hb6
    refine hK.out _ _ (HQ6.out.facts) (fun hHeld => ?_)
    clear hK K
    try simp only [Act.put, List.setIfInBounds_toArray, List.set_cons_zero, List.set_cons_succ]
    refine takeW (i := 12) (v := ?v21) rfl (by kernel_rfl) (by kernel_rfl) (by kernel_rfl) (fun _ _ _ h => h) (by kernel_rfl) hHeld ?hy21 ?rest21
    case hy21 => (intro w hSw; (try dsimp only at hSw); go_simp; (try with_reducible rfl))
    try simp only [Act.put, List.setIfInBounds_toArray, List.set_cons_zero, List.set_cons_succ]
    refine takeW (i := 13) (v := ?v22) rfl (by kernel_rfl) (by kernel_rfl) (by kernel_rfl) (fun _ _ _ h => h) (by kernel_rfl) hHeld ?hy22 ?rest22
    case hy22 => (intro w hSw; (try dsimp only at hSw); go_simp; (try with_reducible rfl))
    try simp only [Act.put, List.setIfInBounds_toArray, List.set_cons_zero, List.set_cons_succ]
    refine wpAnyH_ready (rs := [14]) (by kernel_rfl) (by simp) ?_
    refine consL rfl (by kernel_rfl) (fun K hK => ?_) AllReadyH.nil
    obtain ⟨⟨r0, r1, r2, r3, r4, r5, r6⟩, ⟨f0, f1, f2, f3, f4, f5, f6⟩, rl⟩ := box7 HQ6.out.own
    go_simp
    have HQ7 := Lib.hid (HQ6.out.set 3 (.string TT))
    clear r0 r1 r2 r3 r4 r5 r6 f0 f1 f2 f3 f4 f5 f6 rl
    refine hK.out _ _ (HQ7.out.facts) (fun hHeld => ?_)
    clear hK K
    try simp only [Act.put, List.setIfInBounds_toArray, List.set_cons_zero, List.set_cons_succ]
    refine wpAnyH_done (by kernel_rfl) ?_ _
    generalize (w6.setCell ⟨q, 3, none⟩ (.string TT)) = w7 at *
    go_wp2_with fail
    with_reducible refine (t4 _).mono ?_
    rintro en w8 ⟨rfl, hb8⟩
    have HQ8 := Lib.hid (HQ7.out.later hb8)
    clear hb8 HQ4 HQ5 HQ6 HQ7 hHeld
    have hown : Box w8 q 34 #[.int .i64 0, .int .i64 tm, .bool false, .string TT, .bool false, .string ⟨#[]⟩, .slice none 0 0] := HQ8.out.own
    obtain ⟨⟨r0, r1, r2, r3, r4, r5, r6⟩, ⟨f0, f1, f2, f3, f4, f5, f6⟩, rl⟩ := box7 hown
    obtain ⟨⟨p0, p1, p2, p3, p4, p5, p6⟩, ⟨g0, g1, g2, g3, g4, g5, g6⟩, pl⟩ := box7 HQ8.out.base.res
    have HQ9 := Lib.hid (HQ8.out.set 5 (.string VV))
    have hfar := HQ8.out.far
    clear hown
    go_wp2_with fail
    refine bodyPost_ret (v := .tuple #[.agg #[.int .i64 0, .int .i64 tm, .bool false, .string TT, .bool false, .string VV, .slice none 0 0], .int .i64 0]) ?_ rfl ⟨rfl, ?_⟩
    · exact ent_result (W.heap.size + 1) (HQ9.out.fin _ _ _ _ _ _ _).1 _ rfl rfl
    · exact (HQ9.out.fin _ _ _ _ _ _ _).2
theorem entry_c (k : KY) (a tm : Int) (W : World) : Calls Try.prog 18 #[.agg #[.string k.g, .string k.t, .int .i64 k.i], .int .i64 a, .int .i64 tm] W (Good W (.tuple #[recV (enR k a tm) none 0, .int .i64 (enE k a tm)])) := by
  unfold enR enE
  cases h : enOk k a tm with
  | true => rw [if_pos rfl, if_pos rfl]; exact entry_good k a tm W h
  | false => rw [if_neg (by decide), if_neg (by decide)]; exact entry_bad k a tm W h
end Go.Proofs.Ytlkhfgkgngcakaa
