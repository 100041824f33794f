/- idem: the document's Check, by a contract. No condition but that they are not too many. -/
import Derived.Test.YtdhakekndinbeaaImRf
import Derived.Deep.RegionHeld3
namespace Go.Proofs.Ytdhakekndinbeaa
open Go.RowKit
set_option linter.unusedVariables false
theorem fst_find {K : List RK} {n : Int} : (findK K n = -1 ∧ findG (K.map (·.1)) n = none) ∨ ∃ (i : Nat) (x : RK), findK K n = (i : Int) ∧ K[i]? = some x ∧ x.1.1 = n ∧ findG (K.map (·.1)) n = some x.1 := by
  unfold findK findG
  rw [List.find?_map]
  cases h : K.findIdx? (fun x => decide (x.1.1 = n)) with
  | none =>
    refine .inl ⟨rfl, ?_⟩
    rw [List.findIdx?_eq_none_iff] at h
    have : K.find? ((fun y : GH => decide (y.1 = n)) ∘ fun x => x.1) = none := List.find?_eq_none.2 fun x hx => by have := h x hx; simp at this ⊢; exact this
    rw [this]; rfl
  | some i =>
    rw [List.findIdx?_eq_some_iff_getElem] at h
    obtain ⟨hi, h1, h2⟩ := h
    refine .inr ⟨i, K[i], rfl, List.getElem?_eq_getElem hi, by simpa using h1, ?_⟩
    have : K.find? ((fun y : GH => decide (y.1 = n)) ∘ fun x => x.1) = some K[i] := by
      rw [List.find?_eq_some_iff_getElem]
      refine ⟨h1, i, hi, rfl, fun j hj => ?_⟩
      have := h2 j hj
      simpa using this
    rw [this]; rfl
theorem rcheck_pre (b : BN) (A : Option Addr) (n c : Nat) (W : World) : Below W.heap.size W (W.alloc (.cells #[.int .i64 0, .int .i64 b.span, .int .i64 b.prod, .int .i64 b.epoch, .int .i64 b.seq, .slice A n c] 31)) := (Below.refl _ _).alloc (Nat.le_refl _) _
theorem bx5 {w : World} {q : Nat} {a0 a1 a2 a3 a4 : Int} {v : Value} (h : Box w q 31 #[.int .i64 a0, .int .i64 a1, .int .i64 a2, .int .i64 a3, .int .i64 a4, v]) : w.cell? ⟨q, 0, none⟩ = some (.int .i64 a0) ∧ w.cell? ⟨q, 1, none⟩ = some (.int .i64 a1) ∧ w.cell? ⟨q, 2, none⟩ = some (.int .i64 a2) ∧ w.cell? ⟨q, 3, none⟩ = some (.int .i64 a3) ∧ w.cell? ⟨q, 4, none⟩ = some (.int .i64 a4) ∧ w.cell? ⟨q, 5, none⟩ = some v :=
  ⟨h.cell 0, h.cell 1, h.cell 2, h.cell 3, h.cell 4, h.cell 5⟩
theorem on3 {w : World} {q : Nat} {a0 a1 : Int} {v : Value} (h : Box w q 73 #[.int .i64 a0, .int .i64 a1, v]) : w.cell? ⟨q, 0, none⟩ = some (.int .i64 a0) ∧ w.cell? ⟨q, 1, none⟩ = some (.int .i64 a1) ∧ w.cell? ⟨q, 2, none⟩ = some v :=
  ⟨h.cell 0, h.cell 1, h.cell 2⟩
/-- What is there while a window is gone through. -/
structure RcI (W : World) (p q o base : Nat) (K : List RK) (A : Option Addr) (c : Nat) (b : BN) (B : Option Addr) (m d : Nat) (x : RK) (w : World) : Prop where
  rp : RpIs w base p K A c
  bx : Box w q 31 #[.int .i64 0, .int .i64 b.span, .int .i64 b.prod, .int .i64 b.epoch, .int .i64 b.seq, .slice B m d]
  one : Box w o 73 #[.int .i64 x.1.1, .int .i64 x.1.2.1, x.2]
  sn : SnAt w x.2 x.1.2.2
  bel : Below W.heap.size W w
theorem RcI.later {W w w' : World} {p q o base c m d : Nat} {K : List RK} {A B : Option Addr} {b : BN} {x : RK} (h : RcI W p q o base K A c b B m d x w) (hb : Below w.heap.size w w') : RcI W p q o base K A c b B m d x w' :=
  ⟨h.rp.later hb, h.bx.later hb, h.one.later hb, h.sn.later hb, h.bel.trans (hb.mono h.bel.size)⟩
theorem find_step {L : List SN} {q p : Int} {t : Nat} {s : SN} (h : L[t]? = some s) : findL L q p (t + 1) = if s.1 = q ∧ s.2.2 = p then some s.2.1 else findL L q p t := by
  show (match L[t]? with | some s => _ | none => _) = _
  rw [h]
theorem next_at {L : List SN} {t : Nat} {s : SN} (h : L[t]? = some s) (hl : L.length = t + 1) : nextL L = s.1 + s.2.2 := by
  unfold nextL
  rw [show L.length - 1 = t by omega, h]
set_option maxHeartbeats 16000000 in
set_option maxRecDepth 100000 in
theorem rcheck_c (K : List RK) (A : Option Addr) (c base p : Nat) (b : BN) (B : Option Addr) (m d : Nat) (W : World) (h : RpIs W base p K A c) (hl : K.length ≤ 1000000) (hG : GOk (K.map (·.1))) :
    Calls Try.prog 11 #[.pointer (some ⟨p, 0, none⟩), .agg #[.int .i64 b.base, .int .i64 b.span, .int .i64 b.prod, .int .i64 b.epoch, .int .i64 b.seq, .slice B m d]] W (Good W (chkT (chkG (K.map (·.1)) b))) := by
  have hB := rcheck_pre b B m d W
  have hB1 : Below W.heap.size W (W.alloc (.cells #[.int .i64 b.base, .int .i64 b.span, .int .i64 b.prod, .int .i64 b.epoch, .int .i64 b.seq, .slice B m d] 31)) := (Below.refl _ _).alloc (Nat.le_refl _) _
  have HB := Lib.hid hB
  have HB1 := Lib.hid hB1
  have HX := Lib.hid (Box.new W 31 #[.int .i64 0, .int .i64 b.span, .int .i64 b.prod, .int .i64 b.epoch, .int .i64 b.seq, .slice B m d])
  have H0 := Lib.hid (h.later hB)
  have cn := fun w => numbers_c { b with base := 0 } B m d w
  have cf := fun w (h : RpIs w base p K A c) => rfind_c K A c base p b.prod w h hl
  unfold bnV bnC at cn
  simp only at cn
  unfold chkG
  by_cases hp : b.prod = -1
  · rw [if_pos hp]
    have hz : (b.prod == (-1 : Int)) = true := by rw [hp]; rfl
    clear h hB hB1 hp cn cf
    unfold chkT chkV
    go_enter Try.func11, Try.ntmps11
    go_wp2_with fail
    go_ret3
    exact ⟨rfl, HB1.out⟩
  rw [if_neg hp]
  have hz : (b.prod == (-1 : Int)) = false := by simp [hp]
  cases hb : bnB { b with base := 0 } with
  | false =>
    rw [hb] at cn
    rw [if_neg (by decide)]
    clear h hB hB1 hp hb cf
    unfold chkT chkV
    go_enter Try.func11, Try.ntmps11
    go_wp2_with fail
    with_reducible refine (cn _).mono ?_
    rintro en w1 ⟨rfl, hb1⟩
    have HC1 := Lib.hid (HB.out.trans (hb1.mono HB.out.size))
    clear hb1
    go_wp2_with fail
    go_ret3
    exact ⟨rfl, HC1.out⟩
  | true =>
    rw [hb] at cn
    rw [if_pos rfl]
    obtain ⟨_, _, b3, b4, _⟩ := bnB_of hb
    simp only at b3 b4
    obtain ⟨V, hV⟩ : ∃ V, chkT (chkGO (findG (K.map (·.1)) b.prod) b) = V := ⟨_, rfl⟩
    rw [hV]
    rcases fst_find (K := K) (n := b.prod) with ⟨e1, e2⟩ | ⟨i, x, e1, hx, hxi, e2⟩
    · rw [e1] at cf
      rw [e2] at hV
      have HV : Hid (V = if b.seq = 0 then chkV 0 false 0 else chkV 0 false 9) := Lib.hid (by
        rw [← hV]
        unfold chkGO chkT
        simp only
        split <;> rfl)
      clear h hB hB1 hp hb hV e1 e2
      by_cases hs : b.seq = 0
      · have HV1 : Hid (chkV 0 false 0 = V) := Lib.hid (by rw [HV.out, if_pos hs])
        have hs1 : (b.seq == (0 : Int)) = true := by rw [hs]; rfl
        clear hs
        go_enter Try.func11, Try.ntmps11
        go_wp2_with fail
        with_reducible refine (cn _).mono ?_
        rintro en w1 ⟨rfl, hb1⟩
        have HC1 := Lib.hid (HB.out.trans (hb1.mono HB.out.size))
        have HR1 := Lib.hid (H0.out.later hb1)
        obtain ⟨z0, z1, z2, z3, z4, z5⟩ := bx5 (HX.out.later hb1)
        clear hb1
        go_wp2_with fail
        with_reducible refine (cf _ HR1.out).mono ?_
        rintro en w2 ⟨rfl, rfl⟩
        go_wp2_with fail
        go_ret3
        exact ⟨congrArg _ HV1.out, HC1.out⟩
      · have HV1 : Hid (chkV 0 false 9 = V) := Lib.hid (by rw [HV.out, if_neg hs])
        have hs1 : (b.seq == (0 : Int)) = false := by simp [hs]
        clear hs
        go_enter Try.func11, Try.ntmps11
        go_wp2_with fail
        with_reducible refine (cn _).mono ?_
        rintro en w1 ⟨rfl, hb1⟩
        have HC1 := Lib.hid (HB.out.trans (hb1.mono HB.out.size))
        have HR1 := Lib.hid (H0.out.later hb1)
        obtain ⟨z0, z1, z2, z3, z4, z5⟩ := bx5 (HX.out.later hb1)
        clear hb1
        go_wp2_with fail
        with_reducible refine (cf _ HR1.out).mono ?_
        rintro en w2 ⟨rfl, rfl⟩
        go_wp2_with fail
        go_ret3
        exact ⟨congrArg _ HV1.out, HC1.out⟩
    · rw [e1] at cf
      rw [e2] at hV
      unfold chkGO at hV
      simp only at hV
      have hxm : x ∈ K := List.mem_of_getElem? hx
      have hgb := hG.ghb (List.mem_map.2 ⟨x, hxm, rfl⟩ : x.1 ∈ K.map (·.1))
      obtain ⟨vA, vc, hv⟩ := (h.sn x hxm).slc
      have hil : i < K.length := (List.getElem?_eq_some_iff.1 hx).1
      have HX0 := Lib.hid hx
      have hi0 : (0 : Int) ≤ (i : Int) := by omega
      have hi1 : (i : Int) < (K.length : Int) := by omega
      have HGB := Lib.hid hgb
      have HXM := Lib.hid hxm
      have hrk := fun w (h : RpIs w base p K A c) => rk_cell h.row hx
      clear h hB hB1 hp hb e1 e2 hxi hgb hx hxm
      by_cases he : b.epoch < x.1.2.1
      · have HV : Hid (chkV 0 false 8 = V) := Lib.hid (by rw [← hV, if_pos he]; rfl)
        clear hV
        go_enter Try.func11, Try.ntmps11
        go_wp2_with fail
        with_reducible refine (cn _).mono ?_
        rintro en w1 ⟨rfl, hb1⟩
        have HC1 := Lib.hid (HB.out.trans (hb1.mono HB.out.size))
        have HR1 := Lib.hid (H0.out.later hb1)
        have HX1 := Lib.hid (HX.out.later hb1)
        obtain ⟨z0, z1, z2, z3, z4, z5⟩ := bx5 HX1.out
        have hqlt := HX1.out.lt
        clear hb1 cn
        go_wp2_with fail
        with_reducible refine (cf _ HR1.out).mono ?_
        rintro en w2 ⟨rfl, rfl⟩
        obtain ⟨g, rfl, _, k0, k1, k2, hgl, hKc⟩ := hrk _ HR1.out
        rw [hv] at k2
        have pc := (HR1.out.box.cell 0).trans (show _ = some (Value.slice (some ⟨g, 0, none⟩) K.length c) from rfl)
        have HO : Hid (RcI W p W.heap.size w1.heap.size base K (some ⟨g, 0, none⟩) c b B m d x (w1.alloc (.cells #[.int .i64 x.1.1, .int .i64 x.1.2.1, .slice vA x.1.2.2.length vc] 73))) := Lib.hid (by
          have hbel : Below w1.heap.size w1 (w1.alloc (.cells #[.int .i64 x.1.1, .int .i64 x.1.2.1, .slice vA x.1.2.2.length vc] 73)) := (Below.refl _ _).alloc (Nat.le_refl _) _
          have hr := HR1.out.later hbel
          exact ⟨hr, HX1.out.later hbel, by rw [hv]; exact Box.new _ _ _, hr.sn x HXM.out, HC1.out.trans (hbel.mono HC1.out.size)⟩)
        clear cf hrk
        go_wp2_with fail
        go_ret3
        exact ⟨congrArg _ HV.out, HO.out.bel⟩
      by_cases hq : b.epoch = x.1.2.1
      case neg =>
        have hV2 : V = if b.seq = 0 then chkV 0 false 0 else chkV 0 false 9 := by
          rw [← hV, if_neg he, if_neg hq]
          unfold chkT
          split <;> rfl
        have HV := Lib.hid hV2
        have hq1 : (b.epoch == x.1.2.1) = false := by simp [hq]
        clear hV hV2 hq
        by_cases hs : b.seq = 0
        · have HV1 : Hid (chkV 0 false 0 = V) := Lib.hid (by rw [HV.out, if_pos hs])
          have hs1 : (b.seq == (0 : Int)) = true := by rw [hs]; rfl
          clear hs
          go_enter Try.func11, Try.ntmps11
          go_wp2_with fail
          with_reducible refine (cn _).mono ?_
          rintro en w1 ⟨rfl, hb1⟩
          have HC1 := Lib.hid (HB.out.trans (hb1.mono HB.out.size))
          have HR1 := Lib.hid (H0.out.later hb1)
          have HX1 := Lib.hid (HX.out.later hb1)
          obtain ⟨z0, z1, z2, z3, z4, z5⟩ := bx5 HX1.out
          have hqlt := HX1.out.lt
          clear hb1 cn
          go_wp2_with fail
          with_reducible refine (cf _ HR1.out).mono ?_
          rintro en w2 ⟨rfl, rfl⟩
          obtain ⟨g, rfl, _, k0, k1, k2, hgl, hKc⟩ := hrk _ HR1.out
          rw [hv] at k2
          have pc := (HR1.out.box.cell 0).trans (show _ = some (Value.slice (some ⟨g, 0, none⟩) K.length c) from rfl)
          have HO : Hid (RcI W p W.heap.size w1.heap.size base K (some ⟨g, 0, none⟩) c b B m d x (w1.alloc (.cells #[.int .i64 x.1.1, .int .i64 x.1.2.1, .slice vA x.1.2.2.length vc] 73))) := Lib.hid (by
            have hbel : Below w1.heap.size w1 (w1.alloc (.cells #[.int .i64 x.1.1, .int .i64 x.1.2.1, .slice vA x.1.2.2.length vc] 73)) := (Below.refl _ _).alloc (Nat.le_refl _) _
            have hr := HR1.out.later hbel
            exact ⟨hr, HX1.out.later hbel, by rw [hv]; exact Box.new _ _ _, hr.sn x HXM.out, HC1.out.trans (hbel.mono HC1.out.size)⟩)
          clear cf hrk
          go_wp2_with fail
          go_ret3
          exact ⟨congrArg _ HV1.out, HO.out.bel⟩
        · have HV1 : Hid (chkV 0 false 9 = V) := Lib.hid (by rw [HV.out, if_neg hs])
          have hs1 : (b.seq == (0 : Int)) = false := by simp [hs]
          clear hs
          go_enter Try.func11, Try.ntmps11
          go_wp2_with fail
          with_reducible refine (cn _).mono ?_
          rintro en w1 ⟨rfl, hb1⟩
          have HC1 := Lib.hid (HB.out.trans (hb1.mono HB.out.size))
          have HR1 := Lib.hid (H0.out.later hb1)
          have HX1 := Lib.hid (HX.out.later hb1)
          obtain ⟨z0, z1, z2, z3, z4, z5⟩ := bx5 HX1.out
          have hqlt := HX1.out.lt
          clear hb1 cn
          go_wp2_with fail
          with_reducible refine (cf _ HR1.out).mono ?_
          rintro en w2 ⟨rfl, rfl⟩
          obtain ⟨g, rfl, _, k0, k1, k2, hgl, hKc⟩ := hrk _ HR1.out
          rw [hv] at k2
          have pc := (HR1.out.box.cell 0).trans (show _ = some (Value.slice (some ⟨g, 0, none⟩) K.length c) from rfl)
          have HO : Hid (RcI W p W.heap.size w1.heap.size base K (some ⟨g, 0, none⟩) c b B m d x (w1.alloc (.cells #[.int .i64 x.1.1, .int .i64 x.1.2.1, .slice vA x.1.2.2.length vc] 73))) := Lib.hid (by
            have hbel : Below w1.heap.size w1 (w1.alloc (.cells #[.int .i64 x.1.1, .int .i64 x.1.2.1, .slice vA x.1.2.2.length vc] 73)) := (Below.refl _ _).alloc (Nat.le_refl _) _
            have hr := HR1.out.later hbel
            exact ⟨hr, HX1.out.later hbel, by rw [hv]; exact Box.new _ _ _, hr.sn x HXM.out, HC1.out.trans (hbel.mono HC1.out.size)⟩)
          clear cf hrk
          go_wp2_with fail
          go_ret3
          exact ⟨congrArg _ HV1.out, HO.out.bel⟩
      case pos =>
        have hV2 : V = match findL x.1.2.2 b.seq b.span x.1.2.2.length with | some k => chkV k true 0 | none => if b.seq = nextL x.1.2.2 then chkV 0 false 0 else chkV 0 false 9 := by
          rw [← hV, if_neg he, if_pos hq]
          unfold chkT
          cases findL x.1.2.2 b.seq b.span x.1.2.2.length with
          | some k => rfl
          | none => simp only; split <;> rfl
        have HV := Lib.hid hV2
        have hq1 : (b.epoch == x.1.2.1) = true := by rw [hq]; exact beq_self_eq_true _
        have hlen5 : x.1.2.2.length ≤ 5 := HGB.out.2.2.1.2
        clear hV hV2 hq
        go_enter Try.func11, Try.ntmps11
        go_wp2_with fail
        with_reducible refine (cn _).mono ?_
        rintro en w1 ⟨rfl, hb1⟩
        have HC1 := Lib.hid (HB.out.trans (hb1.mono HB.out.size))
        have HR1 := Lib.hid (H0.out.later hb1)
        have HX1 := Lib.hid (HX.out.later hb1)
        obtain ⟨z0, z1, z2, z3, z4, z5⟩ := bx5 HX1.out
        have hqlt := HX1.out.lt
        clear hb1 cn
        go_wp2_with fail
        with_reducible refine (cf _ HR1.out).mono ?_
        rintro en w2 ⟨rfl, rfl⟩
        obtain ⟨g, rfl, _, k0, k1, k2, hgl, hKc⟩ := hrk _ HR1.out
        rw [hv] at k2
        have pc := (HR1.out.box.cell 0).trans (show _ = some (Value.slice (some ⟨g, 0, none⟩) K.length c) from rfl)
        have HO : Hid (RcI W p W.heap.size w1.heap.size base K (some ⟨g, 0, none⟩) c b B m d x (w1.alloc (.cells #[.int .i64 x.1.1, .int .i64 x.1.2.1, .slice vA x.1.2.2.length vc] 73))) := Lib.hid (by
          have hbel : Below w1.heap.size w1 (w1.alloc (.cells #[.int .i64 x.1.1, .int .i64 x.1.2.1, .slice vA x.1.2.2.length vc] 73)) := (Below.refl _ _).alloc (Nat.le_refl _) _
          have hr := HR1.out.later hbel
          exact ⟨hr, HX1.out.later hbel, by rw [hv]; exact Box.new _ _ _, hr.sn x HXM.out, HC1.out.trans (hbel.mono HC1.out.size)⟩)
        clear cf hrk
        go_wp2_with fail
        clear z0 z1 z2 z3 z4 z5 hqlt k0 k1 k2 pc HR1 HX1 HC1 hgl
        generalize w1.heap.size = o at *
        generalize (w1.alloc (.cells #[.int .i64 x.1.1, .int .i64 x.1.2.1, .slice vA x.1.2.2.length vc] 73)) = w9 at *
        generalize hq : W.heap.size = q at *
        have HWQ := Lib.hid hq
        clear hq
        go_loopw [10] (fun i wr => ∃ j : Nat, i = .int .i64 ((j : Int) - 1) ∧ j ≤ x.1.2.2.length ∧ findL x.1.2.2 b.seq b.span j = findL x.1.2.2 b.seq b.span x.1.2.2.length ∧ RcI W p q o base K (some ⟨g, 0, none⟩) c b B m d x wr) (fun i _ => (intOf i + 1).toNat)
        case atStart => exact ⟨x.1.2.2.length, rfl, Nat.le_refl _, rfl, HO.out⟩
        case round =>
          obtain ⟨j, rfl, hj, hfj, hI⟩ := hrel
          have HI := Lib.hid hI
          have HF := Lib.hid hfj
          clear hI hfj HO
          obtain ⟨z0, z1, z2, z3, z4, z5⟩ := bx5 HI.out.bx
          obtain ⟨y0, y1, y2⟩ := on3 HI.out.one
          rw [hv] at y2
          cases j with
          | zero =>
            have HN : Hid (V = if b.seq = nextL x.1.2.2 then chkV 0 false 0 else chkV 0 false 9) := Lib.hid (by
              rw [HV.out, ← HF.out]
              rfl)
            rw [show (((0 : Nat) : Int)) - 1 = -1 from rfl]
            have h1 : (1 : Int) ≤ (x.1.2.2.length : Int) := by have := HGB.out.2.2.1.1; omega
            obtain ⟨s, hs⟩ : ∃ s, x.1.2.2[x.1.2.2.length - 1]? = some s := ⟨_, List.getElem?_eq_getElem (by have := HGB.out.2.2.1.1; omega)⟩
            have hsn := HI.out.sn
            rw [hv] at hsn
            obtain ⟨u, uo, rfl, hvc, hul, s0, s1, s2⟩ := hsn.cell hs
            have hqlt := HI.out.bx.lt
            obtain ⟨⟨m0, m1⟩, _, m2, m3⟩ := HGB.out.2.2.2 s (List.mem_of_getElem? hs)
            have hnx : nextL x.1.2.2 = s.1 + s.2.2 := by unfold nextL; rw [hs]
            have HBL : Hid (Below W.heap.size W (wr.alloc (.cells #[.int .i64 s.1, .int .i64 s.2.1, .int .i64 s.2.2] 75))) := Lib.hid (HI.out.bel.trans (((Below.refl _ _).alloc (Nat.le_refl _) _).mono HI.out.bel.size))
            rw [hnx] at HN
            clear hsn hs hnx
            by_cases e1 : b.seq = s.1 + s.2.2
            · have HV1 : Hid (chkV 0 false 0 = V) := Lib.hid (by rw [HN.out, if_pos e1])
              have d1 : (b.seq == s.1 + s.2.2) = true := by rw [e1]; exact beq_self_eq_true _
              clear e1
              go_wp2_with fail
              go_ret3
              exact ⟨congrArg _ HV1.out, HBL.out⟩
            · have HV1 : Hid (chkV 0 false 9 = V) := Lib.hid (by rw [HN.out, if_neg e1])
              have d1 : (b.seq == s.1 + s.2.2) = false := by simp [e1]
              clear e1
              go_wp2_with fail
              go_ret3
              exact ⟨congrArg _ HV1.out, HBL.out⟩
          | succ t =>
            rw [show ((t + 1 : Nat) : Int) - 1 = (t : Int) by omega]
            obtain ⟨s, hs⟩ : ∃ s, x.1.2.2[t]? = some s := ⟨_, List.getElem?_eq_getElem (by omega)⟩
            have hsn := HI.out.sn
            rw [hv] at hsn
            obtain ⟨u, uo, rfl, hvc, hul, s0, s1, s2⟩ := hsn.cell hs
            have HS := Lib.hid (find_step (q := b.seq) (p := b.span) hs)
            have ht0 : (0 : Int) ≤ (t : Int) := by omega
            have ht1 : (t : Int) < (x.1.2.2.length : Int) := by omega
            have HSC := Lib.hid hs
            clear hsn hs
            by_cases e1 : s.1 = b.seq
            · have d1 : (s.1 == b.seq) = true := by rw [e1]; exact beq_self_eq_true _
              by_cases e2 : s.2.2 = b.span
              · have d2 : (s.2.2 == b.span) = true := by rw [e2]; exact beq_self_eq_true _
                have HN : Hid (V = chkV s.2.1 true 0) := Lib.hid (by
                  rw [HV.out, ← HF.out, HS.out, if_pos ⟨e1, e2⟩])
                clear e1 e2
                go_wp2_with fail
                go_quiet (fail)
                have HIa := Lib.hid (HI.out.later (below_drewN (Below.refl wr.heap.size wr) nq))
                generalize wr.drewN nq = wa at *
                clear z0 z1 z2 z3 z4 z5 y0 y1 y2 s0 s1 s2 HI
                obtain ⟨y0, y1, y2⟩ := on3 HIa.out.one
                rw [hv] at y2
                have hsn := HIa.out.sn
                rw [hv] at hsn
                obtain ⟨u2, uo2, eu, _, _, s0, s1, s2⟩ := hsn.cell HSC.out
                injection eu with eu
                injection eu with eu1 eu2
                subst eu1 eu2
                clear hsn
                go_wp2_with fail
                go_ret3
                exact ⟨congrArg _ HN.out.symm, by rw [HWQ.out]; exact HWQ.out ▸ HIa.out.bel⟩
              · have d2 : (s.2.2 == b.span) = false := by simp [e2]
                have HN : Hid (findL x.1.2.2 b.seq b.span t = findL x.1.2.2 b.seq b.span x.1.2.2.length) := Lib.hid (by
                  rw [← HF.out, HS.out, if_neg (fun h => e2 h.2)])
                clear e1 e2
                go_wp2_with fail
                go_quiet (fail)
                have HIa := Lib.hid (HI.out.later (below_drewN (Below.refl wr.heap.size wr) nq))
                generalize wr.drewN nq = wa at *
                clear z0 z1 z2 z3 z4 z5 y0 y1 y2 s0 s1 s2 HI
                go_wp2_with fail
                go_roundw
                case rel => exact ⟨t, rfl, by omega, HN.out, HIa.out⟩
                case measure => simp [intOf]
            · have d1 : (s.1 == b.seq) = false := by simp [e1]
              have HN : Hid (findL x.1.2.2 b.seq b.span t = findL x.1.2.2 b.seq b.span x.1.2.2.length) := Lib.hid (by
                rw [← HF.out, HS.out, if_neg (fun h => e1 h.1)])
              clear e1
              go_wp2_with fail
              go_quiet (fail)
              have HIa := Lib.hid (HI.out.later (below_drewN (Below.refl wr.heap.size wr) nq))
              generalize wr.drewN nq = wa at *
              clear z0 z1 z2 z3 z4 z5 y0 y1 y2 s0 s1 s2 HI
              go_wp2_with fail
              go_roundw
              case rel => exact ⟨t, rfl, by omega, HN.out, HIa.out⟩
              case measure => simp [intOf]
end Go.Proofs.Ytdhakekndinbeaa
