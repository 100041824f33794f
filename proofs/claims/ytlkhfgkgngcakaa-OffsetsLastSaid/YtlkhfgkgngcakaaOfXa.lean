/- offsets: the law OffsetsApart walks to true. No condition. -/
import Derived.Test.YtlkhfgkgngcakaaOfRr
namespace Go.Proofs.Ytlkhfgkgngcakaa
open Go.RowKit Go.Maps Go.ChangeMaps Go.WideMaps Go.WideShapes Go.WideAt
set_option linter.unusedVariables false
theorem find_ins {p : KE → Bool} {x : KE} (hx : p x = false) : ∀ F : List KE, (insK x F).find? p = F.find? p
  | [] => by unfold insK; simp [hx]
  | y :: r => by
    unfold insK
    split
    · rw [List.find?_cons_of_neg (by simp [hx])]
    · rw [List.find?_cons, List.find?_cons, find_ins hx r]
theorem find_min {n m : List UInt8} (h : n ≠ m) : ∀ F : List KE, ofK (minK F m) n = ofK F n
  | [] => rfl
  | y :: r => by
    have ih := find_min h r
    unfold ofK minK at *
    by_cases e : kyB y.1 = m
    · rw [List.filter_cons_of_neg (by simp [e]), List.find?_cons_of_neg (by simp [e]; exact fun e => h e.symm)]
      exact ih
    · rw [List.filter_cons_of_pos (by simp [e]), List.find?_cons, List.find?_cons, ih]
theorem of_put_other {F : List KE} {x : KE} {n : List UInt8} (h : n ≠ kyB x.1) : ofK (putK x F) n = ofK F n := by
  unfold putK
  rw [← find_min h F]
  unfold ofK
  exact find_ins (by simp; exact fun e => h e.symm) _
theorem of_put_same {F : List KE} {x : KE} : ofK (putK x F) (kyB x.1) = some x := by
  have h : x ∈ putK x F := putK_mem.2 (.inl rfl)
  have hs : (ofK (putK x F) (kyB x.1)).isSome = true := by
    unfold ofK
    rw [List.find?_isSome]
    exact ⟨x, h, by simp⟩
  obtain ⟨e, he⟩ := Option.isSome_iff_exists.1 hs
  obtain ⟨h1, h2⟩ := ofK_mem he
  rcases putK_mem.1 h1 with rfl | ⟨_, h3⟩
  · exact he
  · exact absurd h2 h3
/-- What is committed to one key is nothing to another one. -/
theorem get_other {room : Int} {F : List KE} {k k' : KY} {a : Int} (hk' : KyOk k') (hne : k ≠ k') : geR (coS room F k a) k' = geR F k' := by
  unfold coS
  split
  · rename_i hr
    have hm : mayK k = true := by
      unfold coR at hr
      split at hr
      · rename_i h; simp only [Bool.and_eq_true] at h; exact h.1
      · omega
    have h2 : kyB k' ≠ kyB k := fun e => hne (kyB_inj (mayK_ok hm) hk' e.symm)
    have h3 : ofK (putK (k, a) F) (kyB k') = ofK F (kyB k') := of_put_other (x := (k, a)) h2
    unfold geR
    rw [h3]
  · rfl
theorem str_ne' {a b : ByteArray} (h : a ≠ b) : (a.toList == b.toList) = false := by
  rw [str_eq]; exact decide_eq_false h
/-- How many of a list of keys are a group's. -/
def cntG (L : List KY) (s : ByteArray) : Nat := (L.filter fun k => decide (k.g = s)).length
theorem cntG_perm {L M : List KY} (h : L.Perm M) (s : ByteArray) : cntG L s = cntG M s := (h.filter _).length_eq
theorem cntG_out (F : List KE) (s : ByteArray) : (F.length : Int) - ((outG F s).length : Int) = (cntG (keysOf F) s : Int) := by
  unfold keysOf
  rw [cntG_perm (sortK_perm _)]
  induction F with
  | nil => rfl
  | cons e F ih =>
    unfold outG cntG at *
    simp only [List.map_cons, List.filter_cons, List.length_cons]
    by_cases h : e.1.g = s
    · simp only [h, decide_true, Bool.not_true, Bool.false_eq_true, if_false, if_true, List.length_cons]
      omega
    · simp only [h, decide_false, Bool.not_false, Bool.false_eq_true, if_false, if_true, List.length_cons]
      omega
theorem cntG_take {L : List KY} {s : ByteArray} {k : Nat} {x : KY} (hx : L[k]? = some x) : cntG (L.take (k + 1)) s = cntG (L.take k) s + (if x.g = s then 1 else 0) := by
  obtain ⟨hk, he⟩ := List.getElem?_eq_some_iff.1 hx
  unfold cntG
  rw [List.take_add_one, hx]
  simp only [Option.toList_some, List.filter_append, List.length_append]
  congr 1
  by_cases h : x.g = s
  · simp [h]
  · simp [h]
theorem cntG_le (L : List KY) (s : ByteArray) : cntG L s ≤ L.length := List.length_filter_le _ _
theorem out_key {F : List KE} {s : ByteArray} {x : KY} (h : x ∈ keysOf (outG F s)) : x.g ≠ s := by
  obtain ⟨e, he, rfl⟩ := keysOf_mem h
  have := (List.mem_filter.1 he).2
  simpa using this
/-- While commits go on, with two boxes. -/
structure XaI (W : World) (p g : Nat) (F : List KE) (o1 o2 : Nat) (k1 k2 : KY) (w : World) : Prop where
  ot : OT W p g 100 F w
  b1 : Box w o1 45 #[.string k1.g, .string k1.t, .int .i64 k1.i]
  b2 : Box w o2 45 #[.string k2.g, .string k2.t, .int .i64 k2.i]
  below : Below W.heap.size W w
theorem XaI.later {W w w' : World} {p g o1 o2 : Nat} {F : List KE} {k1 k2 : KY} (h : XaI W p g F o1 o2 k1 k2 w) (hb : Below w.heap.size w w') : XaI W p g F o1 o2 k1 k2 w' := ⟨h.ot.later hb, h.b1.later hb, h.b2.later hb, h.below.trans (hb.mono h.below.size)⟩
theorem XaI.wr {W w w' : World} {p g o1 o2 : Nat} {F G : List KE} {k1 k2 : KY} (h : XaI W p g F o1 o2 k1 k2 w) (hw : Wr W p g 100 G w w') : XaI W p g G o1 o2 k1 k2 w' :=
  ⟨hw.ot, h.b1.off hw.off (box_ne_map h.b1 h.ot.is.map), h.b2.off hw.off (box_ne_map h.b2 h.ot.is.map), h.ot.below hw h.below⟩
theorem Wr.later {W0 w w1 w' : World} {p g : Nat} {room : Int} {G : List KE} (hb : Below w.heap.size w w1) (hw : Wr W0 p g room G w1 w') : Wr W0 p g room G w w' := ⟨hw.ot, (Off.of_below (fun i => i = g) hb).trans hw.off (fun _ _ e => e)⟩
set_option maxHeartbeats 16000000 in
set_option maxRecDepth 100000 in
theorem offsetsApart_walk (A0 : Option Addr) (c0 : Nat) (L : List OO) (s : ByteArray) (W : World) (hL : OosIn W A0 L) (hs : s.size ≤ 140737488351232) : Calls Try.prog 6 #[.slice A0 L.length c0, .string s] W (Yes W) := by
  have cl := fun w => live_c w
  unfold Yes at cl
  by_cases hn : (60 : Int) < (L.length : Int)
  · go_enter Try.func6, Try.ntmps6
    go_wp2_with fail
    with_reducible refine (cl _).mono ?_
    rintro en w1 ⟨rfl, hb⟩
    go_wp2_with fail
    go_ret
    exact ⟨rfl, hb⟩
  · have nw := new_v W W 100 (by omega) (by omega) (Nat.le_refl _)
    obtain ⟨n, hnl⟩ : ∃ n, L.length = n := ⟨_, rfl⟩
    have HN := Lib.hid hnl
    have HL := Lib.hid hL
    have HS0 := Lib.hid hs
    rw [hnl] at hn ⊢
    have hn60 : n ≤ 60 := by omega
    clear hnl hL hs
    go_enter Try.func6, Try.ntmps6
    go_wp2_with fail
    with_reducible refine nw.mono ?_
    rintro en w1 ⟨p, g, rfl, hot, _, _, _, _, hb⟩
    have HS := Lib.hid (show RsI W p g w1 from ⟨⟨[], hot⟩, hb⟩)
    clear hot hb nw
    go_wp2_with fail
    go_loopw [8] (fun i wr => ∃ k : Nat, i = .int .i64 k ∧ k ≤ n ∧ RsI W p g wr) (fun i _ => n - (intOf i).toNat)
    case atStart => exact ⟨0, rfl, Nat.zero_le _, HS.out⟩
    case round =>
      obtain ⟨k, rfl, hk, hI⟩ := hrel
      obtain ⟨⟨F, hot⟩, hbl⟩ := hI
      have HO := Lib.hid hot
      have HB := Lib.hid hbl
      clear hot hbl HS
      by_cases hkn : k < n
      · have hkl : k < L.length := by rw [HN.out]; exact hkn
        obtain ⟨x, hx⟩ : ∃ x, L[k]? = some x := ⟨_, List.getElem?_eq_getElem hkl⟩
        obtain ⟨b, off, rfl, hbl, hok, z1, z2, z3, z4⟩ := oo_cells HL.out HB.out hx
        have hK0 : (0 : Int) ≤ (k : Int) := by omega
        have hK1 : (k : Int) < (n : Int) := by omega
        have HX := Lib.hid hx
        have HOWN : Hid (KyOk ⟨s, x.k.t, x.k.i⟩) := Lib.hid ⟨by have := HS0.out; unfold maxLen; show s.size ≤ _; omega, hok.ky.t, hok.ky.i⟩
        clear hx hkl hok
        go_wp2_with fail
        have hS0 : wr.drew.cell? ⟨b, off + k * 12 + 1, none⟩ = some (.string x.k.g) ∧ wr.drew.cell? ⟨b, off + k * 12 + 2, none⟩ = some (.string x.k.t) ∧ wr.drew.cell? ⟨b, off + k * 12 + 3, none⟩ = some (.int .i64 x.k.i) ∧ wr.drew.cell? ⟨b, off + k * 12 + 4, none⟩ = some (.int .i64 x.at_) := ⟨z1, z2, z3, z4⟩
        have hD := (Below.refl wr.heap.size wr).drew
        refine wp_region_held_drew (S := (fun w => w.cell? ⟨b, off + k * 12 + 1, none⟩ = some (.string x.k.g) ∧ w.cell? ⟨b, off + k * 12 + 2, none⟩ = some (.string x.k.t) ∧ w.cell? ⟨b, off + k * 12 + 3, none⟩ = some (.int .i64 x.k.i) ∧ w.cell? ⟨b, off + k * 12 + 4, none⟩ = some (.int .i64 x.at_))) (by kernel_rfl) hS0 (fun hHeld => ?_)
        refine takeW (i := 0) (v := ?v1) rfl (by kernel_rfl) (by kernel_rfl) (by kernel_rfl) (fun _ _ _ h => h) (by kernel_rfl) hHeld ?hy1 ?rest1
        case hy1 => (intro w hSw; (try dsimp only at hSw); go_simp; (try with_reducible rfl))
        try simp only [Act.put, List.setIfInBounds_toArray, List.set_cons_zero, List.set_cons_succ]
        refine takeW (i := 1) (v := ?v2) rfl (by kernel_rfl) (by kernel_rfl) (by kernel_rfl) (fun _ _ _ h => h) (by kernel_rfl) hHeld ?hy2 ?rest2
        case hy2 => (intro w hSw; (try dsimp only at hSw); go_simp; (try with_reducible rfl))
        try simp only [Act.put, List.setIfInBounds_toArray, List.set_cons_zero, List.set_cons_succ]
        refine takeW (i := 2) (v := ?v3) rfl (by kernel_rfl) (by kernel_rfl) (by kernel_rfl) (fun _ _ _ h => h) (by kernel_rfl) hHeld ?hy3 ?rest3
        case hy3 => (intro w hSw; (try dsimp only at hSw); go_simp; (try with_reducible rfl))
        try simp only [Act.put, List.setIfInBounds_toArray, List.set_cons_zero, List.set_cons_succ]
        refine takeW (i := 3) (v := ?v4) rfl (by kernel_rfl) (by kernel_rfl) (by kernel_rfl) (fun _ _ _ h => h) (by kernel_rfl) hHeld ?hy4 ?rest4
        case hy4 => (intro w hSw; (try dsimp only at hSw); go_simp; (try with_reducible rfl))
        try simp only [Act.put, List.setIfInBounds_toArray, List.set_cons_zero, List.set_cons_succ]
        refine takeW (i := 4) (v := ?v5) rfl (by kernel_rfl) (by kernel_rfl) (by kernel_rfl) (fun _ _ _ h => h) (by kernel_rfl) hHeld ?hy5 ?rest5
        case hy5 => (intro w hSw; (try dsimp only at hSw); go_simp; (try with_reducible rfl))
        try simp only [Act.put, List.setIfInBounds_toArray, List.set_cons_zero, List.set_cons_succ]
        refine takeW (i := 5) (v := ?v6) rfl (by kernel_rfl) (by kernel_rfl) (by kernel_rfl) (fun _ _ _ h => h) (by kernel_rfl) hHeld ?hy6 ?rest6
        case hy6 => (intro w hSw; (try dsimp only at hSw); go_simp; (try with_reducible rfl))
        try simp only [Act.put, List.setIfInBounds_toArray, List.set_cons_zero, List.set_cons_succ]
        refine takeW (i := 6) (v := ?v7) rfl (by kernel_rfl) (by kernel_rfl) (by kernel_rfl) (fun _ _ _ h => h) (by kernel_rfl) hHeld ?hy7 ?rest7
        case hy7 => (intro w hSw; (try dsimp only at hSw); go_simp; (try with_reducible rfl))
        try simp only [Act.put, List.setIfInBounds_toArray, List.set_cons_zero, List.set_cons_succ]
        refine takeW (i := 7) (v := ?v8) rfl (by kernel_rfl) (by kernel_rfl) (by kernel_rfl) (fun _ _ _ h => h) (by kernel_rfl) hHeld ?hy8 ?rest8
        case hy8 => (intro w hSw; (try dsimp only at hSw); go_simp; (try with_reducible rfl))
        try simp only [Act.put, List.setIfInBounds_toArray, List.set_cons_zero, List.set_cons_succ]
        refine takeW (i := 8) (v := ?v9) rfl (by kernel_rfl) (by kernel_rfl) (by kernel_rfl) (fun _ _ _ h => h) (by kernel_rfl) hHeld ?hy9 ?rest9
        case hy9 => (intro w hSw; (try dsimp only at hSw); go_simp; (try with_reducible rfl))
        try simp only [Act.put, List.setIfInBounds_toArray, List.set_cons_zero, List.set_cons_succ]
        refine takeW (i := 9) (v := ?v10) rfl (by kernel_rfl) (by kernel_rfl) (by kernel_rfl) (fun _ _ _ h => h) (by kernel_rfl) hHeld ?hy10 ?rest10
        case hy10 => (intro w hSw; (try dsimp only at hSw); go_simp; (try with_reducible rfl))
        try simp only [Act.put, List.setIfInBounds_toArray, List.set_cons_zero, List.set_cons_succ]
        refine takeW (i := 10) (v := ?v11) rfl (by kernel_rfl) (by kernel_rfl) (by kernel_rfl) (fun _ _ _ h => h) (by kernel_rfl) hHeld ?hy11 ?rest11
        case hy11 => (intro w hSw; (try dsimp only at hSw); go_simp; (try with_reducible rfl))
        try simp only [Act.put, List.setIfInBounds_toArray, List.set_cons_zero, List.set_cons_succ]
        refine wpAnyH_ready (rs := [11]) (by kernel_rfl) (by simp) ?_
        refine consL rfl (by kernel_rfl) (fun K hK => ?_) AllReadyH.nil
        go_simp
        have hBA := hD.trans ((Below.refl wr.heap.size wr.drew).alloc (Nat.le_refl _) (.cells #[.string ⟨#[]⟩, .string ⟨#[]⟩, .int .i64 0] 45))
        have hbx : Box (wr.alloc (.cells #[.string ⟨#[]⟩, .string ⟨#[]⟩, .int .i64 0] 45)).drew wr.heap.size 45 #[.string ⟨#[]⟩, .string ⟨#[]⟩, .int .i64 0] := Box.new wr _ _
        have hS1 : (wr.alloc (.cells #[.string ⟨#[]⟩, .string ⟨#[]⟩, .int .i64 0] 45)).drew.cell? ⟨b, off + k * 12 + 1, none⟩ = some (.string x.k.g) ∧ (wr.alloc (.cells #[.string ⟨#[]⟩, .string ⟨#[]⟩, .int .i64 0] 45)).drew.cell? ⟨b, off + k * 12 + 2, none⟩ = some (.string x.k.t) ∧ (wr.alloc (.cells #[.string ⟨#[]⟩, .string ⟨#[]⟩, .int .i64 0] 45)).drew.cell? ⟨b, off + k * 12 + 3, none⟩ = some (.int .i64 x.k.i) ∧ (wr.alloc (.cells #[.string ⟨#[]⟩, .string ⟨#[]⟩, .int .i64 0] 45)).drew.cell? ⟨b, off + k * 12 + 4, none⟩ = some (.int .i64 x.at_) := ⟨(hBA.cell (p := ⟨b, off + k * 12 + 1, none⟩) hbl).trans z1, (hBA.cell (p := ⟨b, off + k * 12 + 2, none⟩) hbl).trans z2, (hBA.cell (p := ⟨b, off + k * 12 + 3, none⟩) hbl).trans z3, (hBA.cell (p := ⟨b, off + k * 12 + 4, none⟩) hbl).trans z4⟩
        refine hK.out _ _ (hS1) (fun hHeld => ?_)
        clear hK K
        try simp only [Act.put, List.setIfInBounds_toArray, List.set_cons_zero, List.set_cons_succ]
        refine wpAnyH_ready (rs := [12]) (by kernel_rfl) (by simp) ?_
        refine consL rfl (by kernel_rfl) (fun K hK => ?_) AllReadyH.nil
        go_simp
        have hBA := hD.trans ((Below.refl wr.heap.size wr.drew).alloc (Nat.le_refl _) (.cells #[.string x.k.g, .string x.k.t, .int .i64 x.k.i] 45))
        have hS2 : (wr.alloc (.cells #[.string x.k.g, .string x.k.t, .int .i64 x.k.i] 45)).drew.cell? ⟨b, off + k * 12 + 1, none⟩ = some (.string x.k.g) ∧ (wr.alloc (.cells #[.string x.k.g, .string x.k.t, .int .i64 x.k.i] 45)).drew.cell? ⟨b, off + k * 12 + 2, none⟩ = some (.string x.k.t) ∧ (wr.alloc (.cells #[.string x.k.g, .string x.k.t, .int .i64 x.k.i] 45)).drew.cell? ⟨b, off + k * 12 + 3, none⟩ = some (.int .i64 x.k.i) ∧ (wr.alloc (.cells #[.string x.k.g, .string x.k.t, .int .i64 x.k.i] 45)).drew.cell? ⟨b, off + k * 12 + 4, none⟩ = some (.int .i64 x.at_) := ⟨(hBA.cell (p := ⟨b, off + k * 12 + 1, none⟩) hbl).trans z1, (hBA.cell (p := ⟨b, off + k * 12 + 2, none⟩) hbl).trans z2, (hBA.cell (p := ⟨b, off + k * 12 + 3, none⟩) hbl).trans z3, (hBA.cell (p := ⟨b, off + k * 12 + 4, none⟩) hbl).trans z4⟩
        refine hK.out _ _ (hS2) (fun hHeld => ?_)
        clear hK K
        try simp only [Act.put, List.setIfInBounds_toArray, List.set_cons_zero, List.set_cons_succ]
        refine wpAnyH_done (by kernel_rfl) ?_ _
        have hX1 : Box (wr.alloc (.cells #[.string x.k.g, .string x.k.t, .int .i64 x.k.i] 45)).drew wr.heap.size 45 #[.string x.k.g, .string x.k.t, .int .i64 x.k.i] := Box.new wr _ _
        have hBK := hD.trans ((Below.refl wr.heap.size wr.drew).alloc (Nat.le_refl _) (.cells #[.string x.k.g, .string x.k.t, .int .i64 x.k.i] 45))
        have HO4 : Hid (OT W p g 100 F (wr.alloc (.cells #[.string x.k.g, .string x.k.t, .int .i64 x.k.i] 45)).drew) := Lib.hid (HO.out.later hBK)
        have HB4 : Hid (Below W.heap.size W (wr.alloc (.cells #[.string x.k.g, .string x.k.t, .int .i64 x.k.i] 45)).drew) := Lib.hid (HB.out.trans (hBK.mono HB.out.size))
        have HX1 := Lib.hid hX1
        clear hBK hX1 hD z1 z2 z3 z4 hbl hS0 hS1 hS2 hbx hHeld
        generalize (wr.alloc (.cells #[.string x.k.g, .string x.k.t, .int .i64 x.k.i] 45)).drew = w4 at *
        generalize wr.heap.size = o1 at *
        have hBO := (Below.refl w4.heap.size w4).alloc (Nat.le_refl _) (.cells #[.string s, .string x.k.t, .int .i64 x.k.i] 45)
        have HI := Lib.hid (show XaI W p g F o1 w4.heap.size x.k ⟨s, x.k.t, x.k.i⟩ (w4.alloc (.cells #[.string s, .string x.k.t, .int .i64 x.k.i] 45)) from ⟨HO4.out.later hBO, HX1.out.later hBO, Box.new _ _ _, HB4.out.trans (hBO.mono HB4.out.size)⟩)
        obtain ⟨b', off', hA', hbl, _, z1, z2, z3, z4⟩ := oo_cells HL.out HB4.out HX.out
        injection hA' with hA'
        injection hA' with e1 e2 _
        subst e1 e2
        obtain ⟨q0, q1, q2, ql, _, _, _⟩ := ky3 HI.out.b2
        have cg1 := get_v HI.out.ot ⟨s, x.k.t, x.k.i⟩ HOWN.out
        obtain ⟨r1, hr1⟩ : ∃ r1, geR F ⟨s, x.k.t, x.k.i⟩ = r1 := ⟨_, rfl⟩
        have HR1 := Lib.hid hr1
        rw [hr1] at cg1
        obtain ⟨va, ba⟩ := r1
        clear hBO hr1 HO4 HB4 HX1 HO HB
        go_wp2_with fail
        with_reducible refine cg1.mono ?_
        generalize (w4.alloc (.cells #[.string s, .string x.k.t, .int .i64 x.k.i] 45)) = w5 at *
        generalize w4.heap.size = o2 at *
        rintro en w6 ⟨rfl, hb⟩
        have HI6 := Lib.hid (HI.out.later hb)
        clear hb cg1 HI z1 z2 z3 z4 hbl q0 q1 q2 ql
        obtain ⟨b', off', hA', hbl, _, z1, z2, z3, z4⟩ := oo_cells HL.out HI6.out.below HX.out
        injection hA' with hA'
        injection hA' with e1 e2 _
        subst e1 e2
        obtain ⟨q0, q1, q2, ql, _, _, _⟩ := ky3 HI6.out.b1
        go_wp2_with fail
        have hS0 : w6.drew.cell? ⟨o1, 0, none⟩ = some (.string x.k.g) ∧ w6.drew.cell? ⟨o1, 1, none⟩ = some (.string x.k.t) ∧ w6.drew.cell? ⟨o1, 2, none⟩ = some (.int .i64 x.k.i) ∧ w6.drew.cell? ⟨b, off + k * 12 + 4, none⟩ = some (.int .i64 x.at_) := ⟨q0, q1, q2, z4⟩
        have HID := Lib.hid (HI6.out.later (Below.refl _ _).drew)
        have cm1 := commit_v HID.out.ot x.k x.at_
        refine wp_region_held_drew (S := (fun w => w.cell? ⟨o1, 0, none⟩ = some (.string x.k.g) ∧ w.cell? ⟨o1, 1, none⟩ = some (.string x.k.t) ∧ w.cell? ⟨o1, 2, none⟩ = some (.int .i64 x.k.i) ∧ w.cell? ⟨b, off + k * 12 + 4, none⟩ = some (.int .i64 x.at_))) (by kernel_rfl) hS0 (fun hHeld => ?_)
        refine takeW (i := 0) (v := ?v12) rfl (by kernel_rfl) (by kernel_rfl) (by kernel_rfl) (fun _ _ _ h => h) (by kernel_rfl) hHeld ?hy12 ?rest12
        case hy12 => (intro w hSw; (try dsimp only at hSw); go_simp; (try with_reducible rfl))
        try simp only [Act.put, List.setIfInBounds_toArray, List.set_cons_zero, List.set_cons_succ]
        refine takeW (i := 1) (v := ?v13) rfl (by kernel_rfl) (by kernel_rfl) (by kernel_rfl) (fun _ _ _ h => h) (by kernel_rfl) hHeld ?hy13 ?rest13
        case hy13 => (intro w hSw; (try dsimp only at hSw); go_simp; (try with_reducible rfl))
        try simp only [Act.put, List.setIfInBounds_toArray, List.set_cons_zero, List.set_cons_succ]
        refine takeW (i := 2) (v := ?v14) rfl (by kernel_rfl) (by kernel_rfl) (by kernel_rfl) (fun _ _ _ h => h) (by kernel_rfl) hHeld ?hy14 ?rest14
        case hy14 => (intro w hSw; (try dsimp only at hSw); go_simp; (try with_reducible rfl))
        try simp only [Act.put, List.setIfInBounds_toArray, List.set_cons_zero, List.set_cons_succ]
        refine takeW (i := 3) (v := ?v15) rfl (by kernel_rfl) (by kernel_rfl) (by kernel_rfl) (fun _ _ _ h => h) (by kernel_rfl) hHeld ?hy15 ?rest15
        case hy15 => (intro w hSw; (try dsimp only at hSw); go_simp; (try with_reducible rfl))
        try simp only [Act.put, List.setIfInBounds_toArray, List.set_cons_zero, List.set_cons_succ]
        refine takeW (i := 4) (v := ?v16) rfl (by kernel_rfl) (by kernel_rfl) (by kernel_rfl) (fun _ _ _ h => h) (by kernel_rfl) hHeld ?hy16 ?rest16
        case hy16 => (intro w hSw; (try dsimp only at hSw); go_simp; (try with_reducible rfl))
        try simp only [Act.put, List.setIfInBounds_toArray, List.set_cons_zero, List.set_cons_succ]
        refine takeW (i := 5) (v := ?v17) rfl (by kernel_rfl) (by kernel_rfl) (by kernel_rfl) (fun _ _ _ h => h) (by kernel_rfl) hHeld ?hy17 ?rest17
        case hy17 => (intro w hSw; (try dsimp only at hSw); go_simp; (try with_reducible rfl))
        try simp only [Act.put, List.setIfInBounds_toArray, List.set_cons_zero, List.set_cons_succ]
        refine takeW (i := 6) (v := ?v18) rfl (by kernel_rfl) (by kernel_rfl) (by kernel_rfl) (fun _ _ _ h => h) (by kernel_rfl) hHeld ?hy18 ?rest18
        case hy18 => (intro w hSw; (try dsimp only at hSw); go_simp; (try with_reducible rfl))
        try simp only [Act.put, List.setIfInBounds_toArray, List.set_cons_zero, List.set_cons_succ]
        refine wpAnyH_ready (rs := [7]) (by kernel_rfl) (by simp) ?_
        refine consL rfl (by kernel_rfl) (fun K hK => ?_) AllReadyH.nil
        go_simp
        with_reducible refine cm1.mono ?_
        rintro en w8 ⟨rfl, hw⟩
        have HIX := Lib.hid (HID.out.wr hw)
        clear hw cm1
        obtain ⟨b2, off2, hA2, _, _, _, _, _, y4⟩ := oo_cells HL.out HIX.out.below HX.out
        injection hA2 with hA2
        injection hA2 with e1 e2 _
        subst e1 e2
        obtain ⟨p0, p1, p2, _, _, _, _⟩ := ky3 HIX.out.b1
        clear q0 q1 q2 ql z1 z2 z3 z4 hbl HI6 HID
        refine hK.out _ _ (⟨p0, p1, p2, y4⟩) (fun hHeld => ?_)
        clear hK K
        try simp only [Act.put, List.setIfInBounds_toArray, List.set_cons_zero, List.set_cons_succ]
        refine wpAnyH_done (by kernel_rfl) ?_ _
        have HI7 := Lib.hid HIX.out
        obtain ⟨q0, q1, q2, ql, _, _, _⟩ := ky3 HI7.out.b2
        have cg2 := get_v HI7.out.ot ⟨s, x.k.t, x.k.i⟩ HOWN.out
        obtain ⟨r2, hr2⟩ : ∃ r2, geR (coS 100 F x.k x.at_) ⟨s, x.k.t, x.k.i⟩ = r2 := ⟨_, rfl⟩
        have HR2 := Lib.hid hr2
        rw [hr2] at cg2
        obtain ⟨vb, bb⟩ := r2
        clear hr2
        go_wp2_with fail
        with_reducible refine cg2.mono ?_
        rintro en w9 ⟨rfl, hb⟩
        have HI9 := Lib.hid (HI7.out.later hb)
        clear hb cg2 HI7 HIX q0 q1 q2 ql
        obtain ⟨b', off', hA', hbl, _, z1, z2, z3, z4⟩ := oo_cells HL.out HI9.out.below HX.out
        injection hA' with hA'
        injection hA' with e1 e2 _
        subst e1 e2
        by_cases hgs : x.k.g = s
        · have hcmp : (x.k.g.toList == s.toList) = true := by rw [hgs]; exact beq_self _
          clear hgs
          go_wp2_with fail
          exact ⟨⟨k + 1, by go_num, hkn, ⟨_, HI9.out.ot⟩, HI9.out.below⟩, by simp [intOf]; omega⟩
        · have hcmp := str_ne' hgs
          have hsame : (vb, bb) = (va, ba) := by rw [← HR2.out, ← HR1.out]; exact get_other (room := 100) HOWN.out (fun e => hgs (congrArg KY.g e))
          injection hsame with e1 e2
          subst e1 e2
          clear hgs
          cases bb <;> (go_wp2_with fail; exact ⟨⟨k + 1, by go_num, hkn, ⟨_, HI9.out.ot⟩, HI9.out.below⟩, by simp [intOf]; omega⟩)
      · have hkn' : ¬ (k : Int) < (n : Int) := by omega
        have ck := keys_v HO.out
        go_wp2_with fail
        with_reducible refine ck.mono ?_
        rintro en w2 ⟨A, c, rfl, hrow, hb⟩
        have HR := Lib.hid (show RkI W p g F wr.heap.size A c w2 from ⟨HO.out.later hb, hrow, HB.out.trans (hb.mono HB.out.size)⟩)
        have HOK := Lib.hid HO.out.ok
        have HKL := Lib.hid (keysOf_len F)
        have hm1 : F.length ≤ 10000 := by have := HOK.out.len; omega
        clear hrow hb ck HO HB HL HN hn hn60 hk hkn hkn'
        obtain ⟨m, hm⟩ : ∃ m, F.length = m := ⟨_, rfl⟩
        have HM := Lib.hid hm
        rw [hm] at hm1 ⊢
        clear hm
        generalize wr.heap.size = BB at *
        go_wp2_with fail
        go_loopw [7, 16] (fun u i wr => ∃ k : Nat, i = .int .i64 k ∧ k ≤ m ∧ u = .int .i64 (cntG ((keysOf F).take k) s) ∧ RkI W p g F BB A c wr) (fun _ i _ => m - (intOf i).toNat)
        case atStart => exact ⟨0, rfl, Nat.zero_le _, rfl, HR.out⟩
        case round =>
          obtain ⟨k, rfl, hk, rfl, hI⟩ := hrel
          have HI := Lib.hid hI
          clear hI HR
          by_cases hkm : k < m
          · have hkl : k < (keysOf F).length := by rw [HKL.out, HM.out]; exact hkm
            obtain ⟨x, hx⟩ : ∃ x, (keysOf F)[k]? = some x := ⟨_, List.getElem?_eq_getElem hkl⟩
            obtain ⟨g', rfl, _, z0, z1, z2, _, _, _, hg, hc⟩ := ky_cell HKL.out HI.out.row hx
            have hc' : m ≤ c := by rw [← HM.out]; exact hc
            have hK0 : (0 : Int) ≤ (k : Int) := by omega
            have hK1 : (k : Int) < (m : Int) := by omega
            have HCT := Lib.hid (cntG_take (s := s) hx)
            have hcl : cntG ((keysOf F).take k) s ≤ 10000 := by
              have h1 := cntG_le ((keysOf F).take k) s
              rw [List.length_take] at h1
              omega
            obtain ⟨q, hq⟩ : ∃ q, cntG ((keysOf F).take k) s = q := ⟨_, rfl⟩
            rw [hq] at HCT hcl
            have HQ := Lib.hid hq
            rw [hq]
            clear hx hc hkl hq
            by_cases hgs : x.g = s
            · have hcmp : (x.g.toList == s.toList) = true := by rw [hgs]; exact beq_self _
              have HC2 : Hid (cntG ((keysOf F).take (k + 1)) s = q + 1) := Lib.hid (by rw [HCT.out, if_pos hgs])
              clear hgs HCT
              go_wp2_with fail
              refine ⟨⟨k + 1, by go_num, hkm, ?_, HI.out⟩, by simp [intOf]; omega⟩
              rw [HC2.out]
              go_num
            · have hcmp := str_ne' hgs
              have HC2 : Hid (cntG ((keysOf F).take (k + 1)) s = q) := Lib.hid (by rw [HCT.out, if_neg hgs, Nat.add_zero])
              clear hgs HCT
              go_wp2_with fail
              refine ⟨⟨k + 1, by go_num, hkm, ?_, HI.out⟩, by simp [intOf]; omega⟩
              rw [HC2.out]
          · have hkm' : ¬ (k : Int) < (m : Int) := by omega
            have hkk : k = m := by omega
            have HT : Hid (cntG ((keysOf F).take k) s = cntG (keysOf F) s) := Lib.hid (by rw [List.take_of_length_le (by rw [HKL.out, HM.out]; omega)])
            have cf := forget_v HI.out.ot s
            rw [cntG_out] at cf
            have hq1 : cntG (keysOf F) s ≤ 10000 := by
              have h1 := cntG_le (keysOf F) s
              rw [HKL.out, HM.out] at h1
              omega
            have hlen : (m : Int) - (cntG (keysOf F) s : Int) = ((outG F s).length : Int) := by
              have h1 := cntG_out F s
              rw [HM.out] at h1
              omega
            obtain ⟨q, hq⟩ : ∃ q, cntG (keysOf F) s = q := ⟨_, rfl⟩
            rw [hq] at HT cf hq1 hlen
            rw [HT.out]
            clear hq HT hkk
            go_wp2_with fail
            with_reducible refine cf.mono ?_
            rintro en w4 ⟨rfl, hw⟩
            have HO4 := Lib.hid hw.ot
            have HB4 := Lib.hid (HI.out.ot.below hw HI.out.below)
            clear hw cf HI
            have ck := keys_v HO4.out
            go_wp2_with fail
            with_reducible refine ck.mono ?_
            rintro en w5 ⟨A2, c2, rfl, hrow, hb⟩
            have HR := Lib.hid (show RkI W p g (outG F s) w4.heap.size A2 c2 w5 from ⟨HO4.out.later hb, hrow, HB4.out.trans (hb.mono HB4.out.size)⟩)
            have HKL2 := Lib.hid (keysOf_len (outG F s))
            have HGN := Lib.hid (fun (x : KY) (hx : x ∈ keysOf (outG F s)) => out_key hx)
            clear hrow hb ck HO4 HB4
            obtain ⟨G, hG⟩ : ∃ G, outG F s = G := ⟨_, rfl⟩
            rw [hG] at hlen HR HKL2 HGN ⊢
            clear hG
            obtain ⟨l, hl⟩ : ∃ l, G.length = l := ⟨_, rfl⟩
            have HLL := Lib.hid hl
            rw [hl] at hlen ⊢
            clear hl
            have hl1 : l ≤ 10000 := by omega
            generalize w4.heap.size = B2 at *
            go_wp2_with fail
            go_loopw [19] (fun i wr => ∃ k : Nat, i = .int .i64 k ∧ k ≤ l ∧ RkI W p g G B2 A2 c2 wr) (fun i _ => l - (intOf i).toNat)
            case atStart => exact ⟨0, rfl, Nat.zero_le _, HR.out⟩
            case round =>
              obtain ⟨k, rfl, hk, hI⟩ := hrel
              have HI := Lib.hid hI
              clear hI HR
              by_cases hkl2 : k < l
              · have hkl : k < (keysOf G).length := by rw [HKL2.out, HLL.out]; exact hkl2
                obtain ⟨x, hx⟩ : ∃ x, (keysOf G)[k]? = some x := ⟨_, List.getElem?_eq_getElem hkl⟩
                obtain ⟨g', rfl, _, z0, z1, z2, _, _, _, hg, hc⟩ := ky_cell HKL2.out HI.out.row hx
                have hc' : l ≤ c2 := by rw [← HLL.out]; exact hc
                have hK0 : (0 : Int) ≤ (k : Int) := by omega
                have hK1 : (k : Int) < (l : Int) := by omega
                have hcmp := str_ne' (HGN.out x (List.mem_of_getElem? hx))
                clear hx hc hkl
                go_wp2_with fail
                exact ⟨⟨k + 1, by go_num, hkl2, HI.out⟩, by simp [intOf]; omega⟩
              · have hkl3 : ¬ (k : Int) < (l : Int) := by omega
                go_wp2_with fail
                with_reducible refine (cl _).mono ?_
                rintro en w6 ⟨rfl, hb⟩
                have HB6 := Lib.hid (HI.out.below.trans (hb.mono HI.out.below.size))
                clear hb
                go_wp2_with fail
                go_ret
                exact ⟨rfl, HB6.out⟩
end Go.Proofs.Ytlkhfgkgngcakaa
