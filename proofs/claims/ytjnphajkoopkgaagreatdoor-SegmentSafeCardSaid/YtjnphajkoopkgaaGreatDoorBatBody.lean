/- The document's body of a batch. -/
import Derived.Test.YtjnphajkoopkgaaGreatDoorBatRec
import Derived.Test.YtjnphajkoopkgaaGreatDoorBatWho
import Derived.Test.YtjnphajkoopkgaaGreatDoorRecREnc
namespace Go.Proofs.YtjnphajkoopkgaaGreatDoor
open Go.RowKit
set_option linter.unusedVariables false
def encsL (L : List RX) : List UInt8 := L.flatMap fun x => encL x.1
def frontL (b : BN) (n : Nat) : List UInt8 := putL b.base ++ putL b.span ++ putL b.prod ++ putL b.epoch ++ putL b.seq ++ putL n
def bodyL (b : BN) (L : List RX) : List UInt8 := frontL b L.length ++ encsL L
theorem encsL_take_succ {L : List RX} {k : Nat} {x : RX} (h : L[k]? = some x) : encsL (L.take (k + 1)) = encsL (L.take k) ++ encL x.1 := by
  obtain ⟨hk, hx⟩ := List.getElem?_eq_some_iff.1 h
  rw [List.take_succ_eq_append_getElem hk, hx]
  simp [encsL]
theorem encL_le {r : Rec} (h : okRec r = true) : (encL r).length ≤ 22300 := by
  obtain ⟨⟨p0, p1, t0, t1⟩, ⟨k1, v1⟩, m1, ha⟩ := okRec_parts h
  have h1 := putL_len r.place
  have h2 := putL_len r.time
  have h3 := putL_len (marks r.bare r.gone)
  have h4 := txt_le r.key
  have h5 := txt_le r.value
  have h6 := putL_len (r.heads.length : Int)
  have h7 := headsL_le r.heads ha
  unfold encL
  simp only [List.length_append]
  omega
theorem encsL_le : ∀ (L : List RX), (∀ x ∈ L, okRec x.1 = true) → (encsL L).length ≤ L.length * 22300
  | [], _ => by simp [encsL]
  | x :: L, h => by
    have h1 := encL_le (h x (List.mem_cons_self ..))
    have h2 := encsL_le L (fun y hy => h y (List.mem_cons_of_mem _ hy))
    have : encsL (x :: L) = encL x.1 ++ encsL L := by simp [encsL]
    rw [this]
    simp only [List.length_append, List.length_cons]
    omega
theorem numB_range {b : BN} (h : numB b = true) : (0 ≤ b.base ∧ b.base ≤ 1099511627776) ∧ (1 ≤ b.span ∧ b.span ≤ 50) ∧ (-1 ≤ b.prod ∧ b.prod ≤ 1073741824) ∧ (-1 ≤ b.epoch ∧ b.epoch ≤ 32768) ∧ (-1 ≤ b.seq ∧ b.seq ≤ 1073741824) := by
  unfold numB noneB someB wi at h
  simp only [Bool.and_eq_true, Bool.or_eq_true, decide_eq_true_eq] at h
  obtain ⟨⟨⟨⟨h1, h2⟩, h3⟩, h4⟩, h5⟩ := h
  rcases h5 with ⟨⟨h5, h6⟩, h7⟩ | ⟨⟨⟨h5, h6⟩, h7, h8⟩, h9, h10⟩
  · refine ⟨⟨h1, h2⟩, ⟨h3, h4⟩, ?_, ?_, ?_⟩ <;> omega
  · refine ⟨⟨h1, h2⟩, ⟨h3, h4⟩, ?_, ?_, ?_⟩ <;> omega
theorem bnS_later {W w w' : World} {v0 v1 v2 v3 v4 v5 : Value}
    (h : w.cell? ⟨W.heap.size, 0, none⟩ = some v0 ∧ w.cell? ⟨W.heap.size, 1, none⟩ = some v1 ∧ w.cell? ⟨W.heap.size, 2, none⟩ = some v2 ∧ w.cell? ⟨W.heap.size, 3, none⟩ = some v3 ∧ w.cell? ⟨W.heap.size, 4, none⟩ = some v4 ∧ w.cell? ⟨W.heap.size, 5, none⟩ = some v5 ∧ W.heap.size < w.heap.size ∧ Below W.heap.size W w)
    (hb : Below w.heap.size w w') :
    w'.cell? ⟨W.heap.size, 0, none⟩ = some v0 ∧ w'.cell? ⟨W.heap.size, 1, none⟩ = some v1 ∧ w'.cell? ⟨W.heap.size, 2, none⟩ = some v2 ∧ w'.cell? ⟨W.heap.size, 3, none⟩ = some v3 ∧ w'.cell? ⟨W.heap.size, 4, none⟩ = some v4 ∧ w'.cell? ⟨W.heap.size, 5, none⟩ = some v5 ∧ W.heap.size < w'.heap.size ∧ Below W.heap.size W w' := by
  obtain ⟨h0, h1, h2, h3, h4, h5, h7, h8⟩ := h
  have k := fun j => hb.cell (p := ⟨W.heap.size, j, none⟩) h7
  exact ⟨(k 0).trans h0, (k 1).trans h1, (k 2).trans h2, (k 3).trans h3, (k 4).trans h4, (k 5).trans h5, Nat.lt_of_lt_of_le h7 hb.size, h8.trans (hb.mono (Nat.le_of_lt h7))⟩
set_option maxHeartbeats 8000000 in
set_option maxRecDepth 100000 in
theorem rbody_c (b : BN) (A : Option Addr) (c : Nat) (L : List RX) (W : World) (h : RsIn W A L) (hlen : L.length ≤ 50) (hn : numB b = true) (ha : ∀ x ∈ L, okRec x.1 = true) :
    Calls Tryz.prog 97 #[.agg (bnC b (.slice A L.length c))] W (Good W (.string ⟨(bodyL b L).toArray⟩)) := by
  have hr := numB_range hn
  clear hn
  obtain ⟨base, span, prod, epoch, seq⟩ := b
  simp only at hr
  obtain ⟨r1, r2, r3, r4, r5⟩ := hr
  have c1 := fun w => rput_c base w (by omega) (by omega)
  have c2 := fun w => rput_c span w (by omega) (by omega)
  have c3 := fun w => rput_c prod w (by omega) (by omega)
  have c4 := fun w => rput_c epoch w (by omega) (by omega)
  have c5 := fun w => rput_c seq w (by omega) (by omega)
  have c6 := fun w => rput_c (L.length : Int) w (by omega) (by omega)
  have HE : Hid ((⟨(bodyL ⟨base, span, prod, epoch, seq⟩ L).toArray⟩ : ByteArray) = ⟨(putL base).toArray⟩ ++ ⟨(putL span).toArray⟩ ++ ⟨(putL prod).toArray⟩ ++ ⟨(putL epoch).toArray⟩ ++ ⟨(putL seq).toArray⟩ ++ ⟨(putL L.length).toArray⟩ ++ ⟨(encsL L).toArray⟩) := Lib.hid (by
    apply ByteArray.ext
    simp [bodyL, frontL])
  have z1 : (⟨(putL base).toArray⟩ : ByteArray).size ≤ 10 := put_size _
  have z2 : (⟨(putL span).toArray⟩ : ByteArray).size ≤ 10 := put_size _
  have z3 : (⟨(putL prod).toArray⟩ : ByteArray).size ≤ 10 := put_size _
  have z4 : (⟨(putL epoch).toArray⟩ : ByteArray).size ≤ 10 := put_size _
  have z5 : (⟨(putL seq).toArray⟩ : ByteArray).size ≤ 10 := put_size _
  have z6 : (⟨(putL L.length).toArray⟩ : ByteArray).size ≤ 10 := put_size _
  generalize (⟨(bodyL ⟨base, span, prod, epoch, seq⟩ L).toArray⟩ : ByteArray) = res at *
  clear r1 r2 r3 r4 r5
  generalize (⟨(putL base).toArray⟩ : ByteArray) = g1 at *
  generalize (⟨(putL span).toArray⟩ : ByteArray) = g2 at *
  generalize (⟨(putL prod).toArray⟩ : ByteArray) = g3 at *
  generalize (⟨(putL epoch).toArray⟩ : ByteArray) = g4 at *
  generalize (⟨(putL seq).toArray⟩ : ByteArray) = g5 at *
  generalize (⟨(putL (L.length : Int)).toArray⟩ : ByteArray) = g6 at *
  have a2 := add_run (P := Tryz.prog) z1 z2 (by decide)
  have b2 := cat_le z1 z2
  have a3 := add_run (P := Tryz.prog) b2 z3 (by decide)
  have b3 := cat_le b2 z3
  have a4 := add_run (P := Tryz.prog) b3 z4 (by decide)
  have b4 := cat_le b3 z4
  have a5 := add_run (P := Tryz.prog) b4 z5 (by decide)
  have b5 := cat_le b4 z5
  have a6 := add_run (P := Tryz.prog) b5 z6 (by decide)
  have b6 := cat_le b5 z6
  clear z1 z2 z3 z4 z5 z6
  have hbel : Below W.heap.size W (W.alloc (.cells #[.int .i64 base, .int .i64 span, .int .i64 prod, .int .i64 epoch, .int .i64 seq, .slice A L.length c] 44)) := (Below.refl _ W).alloc (Nat.le_refl _) _
  have hbx := Box.new W 44 #[.int .i64 base, .int .i64 span, .int .i64 prod, .int .i64 epoch, .int .i64 seq, .slice A L.length c]
  have y0 := (hbx.cell 0).trans rfl
  have y1 := (hbx.cell 1).trans rfl
  have y2 := (hbx.cell 2).trans rfl
  have y3 := (hbx.cell 3).trans rfl
  have y4 := (hbx.cell 4).trans rfl
  have y5 := (hbx.cell 5).trans rfl
  simp only [List.getElem?_toArray, List.getElem?_cons_zero, List.getElem?_cons_succ] at y0 y1 y2 y3 y4 y5
  have hS := And.intro y0 (And.intro y1 (And.intro y2 (And.intro y3 (And.intro y4 (And.intro y5 (And.intro hbx.lt hbel))))))
  clear hbx hbel
  unfold bnC
  simp only
  go_enter Tryz.func97, Tryz.ntmps97
  go_upto_region 1 with fail
  generalize hW0 : (W.alloc (.cells #[.int .i64 base, .int .i64 span, .int .i64 prod, .int .i64 epoch, .int .i64 seq, .slice A L.length c] 44)) = W0 at *
  clear hW0
  go_cut [3] (fun f w => f = .string (g1 ++ g2 ++ g3 ++ g4 ++ g5 ++ g6) ∧ w.cell? ⟨W.heap.size, 0, none⟩ = some (.int .i64 base) ∧ w.cell? ⟨W.heap.size, 1, none⟩ = some (.int .i64 span) ∧ w.cell? ⟨W.heap.size, 2, none⟩ = some (.int .i64 prod) ∧ w.cell? ⟨W.heap.size, 3, none⟩ = some (.int .i64 epoch) ∧ w.cell? ⟨W.heap.size, 4, none⟩ = some (.int .i64 seq) ∧ w.cell? ⟨W.heap.size, 5, none⟩ = some (.slice A L.length c) ∧ W.heap.size < w.heap.size ∧ Below W.heap.size W w)
  case first =>
    go_region_held3 (fun w => w.cell? ⟨W.heap.size, 0, none⟩ = some (.int .i64 base) ∧ w.cell? ⟨W.heap.size, 1, none⟩ = some (.int .i64 span) ∧ w.cell? ⟨W.heap.size, 2, none⟩ = some (.int .i64 prod) ∧ w.cell? ⟨W.heap.size, 3, none⟩ = some (.int .i64 epoch) ∧ w.cell? ⟨W.heap.size, 4, none⟩ = some (.int .i64 seq) ∧ w.cell? ⟨W.heap.size, 5, none⟩ = some (.slice A L.length c) ∧ W.heap.size < w.heap.size ∧ Below W.heap.size W w)
      (first | exact bnS_later hS ((Below.refl _ _).drew) | exact bnS_later (by assumption) (by assumption))
      (first
        | ((with_reducible refine (c1 _).mono ?_); rintro e w2 ⟨rfl, hb2⟩)
        | ((with_reducible refine (c2 _).mono ?_); rintro e w2 ⟨rfl, hb2⟩)
        | ((with_reducible refine (c3 _).mono ?_); rintro e w2 ⟨rfl, hb2⟩)
        | ((with_reducible refine (c4 _).mono ?_); rintro e w2 ⟨rfl, hb2⟩)
        | ((with_reducible refine (c5 _).mono ?_); rintro e w2 ⟨rfl, hb2⟩)
        | ((with_reducible refine (c6 _).mono ?_); rintro e w2 ⟨rfl, hb2⟩))
    all_goals go_wp2_with fail
    all_goals go_meet
    all_goals exact ⟨rfl, by assumption⟩
  case rest =>
    clear hS y0 y1 y2 y3 y4 y5 c1 c2 c3 c4 c5 c6 a2 a3 a4 a5 a6 b2 b3 b4 b5
    generalize g1 ++ g2 ++ g3 ++ g4 ++ g5 ++ g6 = G at *
    obtain ⟨rfl, _, _, _, _, _, hx5, hxl, hxb⟩ := hcut
    go_wp2_with fail
    have h00 : G = G ++ ⟨(encsL (L.take 0)).toArray⟩ := by
      apply ByteArray.ext
      simp [encsL]
    have H00 := Lib.hid h00
    clear h00
    go_loopw [3, 4] (fun st i wr => ∃ k : Nat, i = .int .i64 k ∧ k ≤ L.length ∧ st = .string (G ++ ⟨(encsL (L.take k)).toArray⟩) ∧ wr.cell? ⟨W.heap.size, 5, none⟩ = some (.slice A L.length c) ∧ W.heap.size < wr.heap.size ∧ Below W.heap.size W wr) (fun _ i _ => L.length - (intOf i).toNat)
    case atStart => exact ⟨0, rfl, Nat.zero_le _, congrArg Value.string H00.out, hx5, hxl, hxb⟩
    case round =>
      obtain ⟨k, rfl, hkl, rfl, y5, yl, yb⟩ := hrel
      clear hx5 hxl hxb H00
      by_cases hk : k < L.length
      · obtain ⟨x, hx⟩ : ∃ x, L[k]? = some x := ⟨_, List.getElem?_eq_getElem hk⟩
        obtain ⟨bb, off, rfl, hlt, hall⟩ := (h.below yb) (by omega)
        obtain ⟨⟨x0, x1, x2, x3, x4, x5, x6⟩, hRI⟩ := hall k x hx
        have hxm : x ∈ L := List.mem_of_getElem? hx
        have hok := ha x hxm
        have ce := renc_c x.1 x.2.1 x.2.2 wr hRI
        rw [if_pos hok, show recE x.1 = 0 by unfold recE; rw [if_pos hok]] at ce
        have zl : (⟨(encsL (L.take k)).toArray⟩ : ByteArray).size ≤ 1115000 := by
          show (encsL (L.take k)).length ≤ _
          have hle := encsL_le (L.take k) (fun y hy => ha y (List.mem_of_mem_take hy))
          rw [List.length_take] at hle
          have : min k L.length ≤ 50 := by omega
          omega
        have ze : (encR x.1).size ≤ 22300 := encL_le hok
        have zg := cat_le b6 zl
        have hsuc : G ++ ⟨(encsL (L.take (k + 1))).toArray⟩ = G ++ ⟨(encsL (L.take k)).toArray⟩ ++ encR x.1 := by
          rw [encsL_take_succ hx]
          apply ByteArray.ext
          simp [encR]
        have HS1 := Lib.hid hsuc
        generalize encR x.1 = E1 at *
        generalize G ++ ⟨(encsL (L.take k)).toArray⟩ = X at *
        have a1 := add_run (P := Tryz.prog) zg ze (by decide)
        have HY := Lib.hid (And.intro y5 (And.intro yl yb))
        clear hsuc zl ze zg hall hok hxm hlt
        unfold recV recC at ce
        go_wp2_with fail
        (with_reducible refine ce.mono ?_)
        rintro e w2 ⟨rfl, hb2⟩
        have hz5 : w2.cell? ⟨W.heap.size, 5, none⟩ = some (.slice (some ⟨bb, off, none⟩) L.length c) := (hb2.cell (p := ⟨W.heap.size, 5, none⟩) HY.out.2.1).trans HY.out.1
        have HZ := Lib.hid (And.intro (Nat.lt_of_lt_of_le HY.out.2.1 hb2.size) (HY.out.2.2.trans (hb2.mono (Nat.le_of_lt HY.out.2.1))))
        clear hb2
        go_wp2
        go_roundw
        case rel => exact ⟨k + 1, by go_num, hk, congrArg Value.string HS1.out.symm, hz5, HZ.out.1, HZ.out.2⟩
        case measure => simp [intOf]; omega
      · have hF : Hid (res = G ++ ⟨(encsL (L.take k)).toArray⟩) := Lib.hid (by rw [HE.out, List.take_of_length_le (by omega)])
        generalize G ++ ⟨(encsL (L.take k)).toArray⟩ = X at *
        go_wp2
        go_ret
        exact ⟨by rw [hF.out]; rfl, yb⟩
end Go.Proofs.YtjnphajkoopkgaaGreatDoor
