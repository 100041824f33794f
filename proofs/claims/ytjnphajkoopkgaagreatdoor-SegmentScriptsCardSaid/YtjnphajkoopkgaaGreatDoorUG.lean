/- Merged texts. What each proves is told at its head. -/
import Derived.Test.YtjnphajkoopkgaaGreatDoorUBa
import Derived.Test.YtjnphajkoopkgaaGreatDoorUBb
import Derived.Test.YtjnphajkoopkgaaGreatDoorUF
/- The document's body of a batch. -/
namespace Go.Proofs.YtjnphajkoopkgaaGreatDoor
open Go.RowKit
set_option linter.unusedVariables false
def encsL (L : List RX) : List UInt8 := L.flatMap fun x => encL x.1
def frontL (b : BN) (n : Nat) : List UInt8 := putL b.base ++ putL b.span ++ putL b.prod ++ putL b.epoch ++ putL b.seq ++ putL n
def bodyL (b : BN) (L : List RX) : List UInt8 := frontL b L.length ++ encsL L
theorem encsL_take_succ {L : List RX} {k : Nat} {x : RX} (h : L[k]? = some x) : encsL (L.take (k + 1)) = encsL (L.take k) ++ encL x.1 := by
  obtain ⟨hk, hx⟩ := List.getElem?_eq_some_iff.1 h
  rw [List.take_succ_eq_append_getElem hk, hx]
  simp [encsL]
theorem encL_le {r : Rec} (h : okRec r = true) : (encL r).length ≤ 22300 := by
  obtain ⟨⟨p0, p1, t0, t1⟩, ⟨k1, v1⟩, m1, ha⟩ := okRec_parts h
  have h1 := putL_len r.place
  have h2 := putL_len r.time
  have h3 := putL_len (marks r.bare r.gone)
  have h4 := txt_le r.key
  have h5 := txt_le r.value
  have h6 := putL_len (r.heads.length : Int)
  have h7 := headsL_le r.heads ha
  unfold encL
  simp only [List.length_append]
  omega
theorem encsL_le : ∀ (L : List RX), (∀ x ∈ L, okRec x.1 = true) → (encsL L).length ≤ L.length * 22300
  | [], _ => by simp [encsL]
  | x :: L, h => by
    have h1 := encL_le (h x (List.mem_cons_self ..))
    have h2 := encsL_le L (fun y hy => h y (List.mem_cons_of_mem _ hy))
    have : encsL (x :: L) = encL x.1 ++ encsL L := by simp [encsL]
    rw [this]
    simp only [List.length_append, List.length_cons]
    omega
theorem numB_range {b : BN} (h : numB b = true) : (0 ≤ b.base ∧ b.base ≤ 1099511627776) ∧ (1 ≤ b.span ∧ b.span ≤ 50) ∧ (-1 ≤ b.prod ∧ b.prod ≤ 1073741824) ∧ (-1 ≤ b.epoch ∧ b.epoch ≤ 32768) ∧ (-1 ≤ b.seq ∧ b.seq ≤ 1073741824) := by
  unfold numB noneB someB wi at h
  simp only [Bool.and_eq_true, Bool.or_eq_true, decide_eq_true_eq] at h
  obtain ⟨⟨⟨⟨h1, h2⟩, h3⟩, h4⟩, h5⟩ := h
  rcases h5 with ⟨⟨h5, h6⟩, h7⟩ | ⟨⟨⟨h5, h6⟩, h7, h8⟩, h9, h10⟩
  · refine ⟨⟨h1, h2⟩, ⟨h3, h4⟩, ?_, ?_, ?_⟩ <;> omega
  · refine ⟨⟨h1, h2⟩, ⟨h3, h4⟩, ?_, ?_, ?_⟩ <;> omega
theorem bnS_later {W w w' : World} {v0 v1 v2 v3 v4 v5 : Value}
    (h : w.cell? ⟨W.heap.size, 0, none⟩ = some v0 ∧ w.cell? ⟨W.heap.size, 1, none⟩ = some v1 ∧ w.cell? ⟨W.heap.size, 2, none⟩ = some v2 ∧ w.cell? ⟨W.heap.size, 3, none⟩ = some v3 ∧ w.cell? ⟨W.heap.size, 4, none⟩ = some v4 ∧ w.cell? ⟨W.heap.size, 5, none⟩ = some v5 ∧ W.heap.size < w.heap.size ∧ Below W.heap.size W w)
    (hb : Below w.heap.size w w') :
    w'.cell? ⟨W.heap.size, 0, none⟩ = some v0 ∧ w'.cell? ⟨W.heap.size, 1, none⟩ = some v1 ∧ w'.cell? ⟨W.heap.size, 2, none⟩ = some v2 ∧ w'.cell? ⟨W.heap.size, 3, none⟩ = some v3 ∧ w'.cell? ⟨W.heap.size, 4, none⟩ = some v4 ∧ w'.cell? ⟨W.heap.size, 5, none⟩ = some v5 ∧ W.heap.size < w'.heap.size ∧ Below W.heap.size W w' := by
  obtain ⟨h0, h1, h2, h3, h4, h5, h7, h8⟩ := h
  have k := fun j => hb.cell (p := ⟨W.heap.size, j, none⟩) h7
  exact ⟨(k 0).trans h0, (k 1).trans h1, (k 2).trans h2, (k 3).trans h3, (k 4).trans h4, (k 5).trans h5, Nat.lt_of_lt_of_le h7 hb.size, h8.trans (hb.mono (Nat.le_of_lt h7))⟩
set_option maxHeartbeats 8000000 in
set_option maxRecDepth 100000 in
theorem rbody_c (b : BN) (A : Option Addr) (c : Nat) (L : List RX) (W : World) (h : RsIn W A L) (hlen : L.length ≤ 50) (hn : numB b = true) (ha : ∀ x ∈ L, okRec x.1 = true) :
    Calls Tryz.prog 97 #[.agg (bnC b (.slice A L.length c))] W (Good W (.string ⟨(bodyL b L).toArray⟩)) := by
  have hr := numB_range hn
  clear hn
  obtain ⟨base, span, prod, epoch, seq⟩ := b
  simp only at hr
  obtain ⟨r1, r2, r3, r4, r5⟩ := hr
  have c1 := fun w => rput_c base w (by omega) (by omega)
  have c2 := fun w => rput_c span w (by omega) (by omega)
  have c3 := fun w => rput_c prod w (by omega) (by omega)
  have c4 := fun w => rput_c epoch w (by omega) (by omega)
  have c5 := fun w => rput_c seq w (by omega) (by omega)
  have c6 := fun w => rput_c (L.length : Int) w (by omega) (by omega)
  have HE : Hid ((⟨(bodyL ⟨base, span, prod, epoch, seq⟩ L).toArray⟩ : ByteArray) = ⟨(putL base).toArray⟩ ++ ⟨(putL span).toArray⟩ ++ ⟨(putL prod).toArray⟩ ++ ⟨(putL epoch).toArray⟩ ++ ⟨(putL seq).toArray⟩ ++ ⟨(putL L.length).toArray⟩ ++ ⟨(encsL L).toArray⟩) := Lib.hid (by
    apply ByteArray.ext
    simp [bodyL, frontL])
  have z1 : (⟨(putL base).toArray⟩ : ByteArray).size ≤ 10 := put_size _
  have z2 : (⟨(putL span).toArray⟩ : ByteArray).size ≤ 10 := put_size _
  have z3 : (⟨(putL prod).toArray⟩ : ByteArray).size ≤ 10 := put_size _
  have z4 : (⟨(putL epoch).toArray⟩ : ByteArray).size ≤ 10 := put_size _
  have z5 : (⟨(putL seq).toArray⟩ : ByteArray).size ≤ 10 := put_size _
  have z6 : (⟨(putL L.length).toArray⟩ : ByteArray).size ≤ 10 := put_size _
  generalize (⟨(bodyL ⟨base, span, prod, epoch, seq⟩ L).toArray⟩ : ByteArray) = res at *
  clear r1 r2 r3 r4 r5
  generalize (⟨(putL base).toArray⟩ : ByteArray) = g1 at *
  generalize (⟨(putL span).toArray⟩ : ByteArray) = g2 at *
  generalize (⟨(putL prod).toArray⟩ : ByteArray) = g3 at *
  generalize (⟨(putL epoch).toArray⟩ : ByteArray) = g4 at *
  generalize (⟨(putL seq).toArray⟩ : ByteArray) = g5 at *
  generalize (⟨(putL (L.length : Int)).toArray⟩ : ByteArray) = g6 at *
  have a2 := add_run (P := Tryz.prog) z1 z2 (by decide)
  have b2 := cat_le z1 z2
  have a3 := add_run (P := Tryz.prog) b2 z3 (by decide)
  have b3 := cat_le b2 z3
  have a4 := add_run (P := Tryz.prog) b3 z4 (by decide)
  have b4 := cat_le b3 z4
  have a5 := add_run (P := Tryz.prog) b4 z5 (by decide)
  have b5 := cat_le b4 z5
  have a6 := add_run (P := Tryz.prog) b5 z6 (by decide)
  have b6 := cat_le b5 z6
  clear z1 z2 z3 z4 z5 z6
  have hbel : Below W.heap.size W (W.alloc (.cells #[.int .i64 base, .int .i64 span, .int .i64 prod, .int .i64 epoch, .int .i64 seq, .slice A L.length c] 44)) := (Below.refl _ W).alloc (Nat.le_refl _) _
  have hbx := Box.new W 44 #[.int .i64 base, .int .i64 span, .int .i64 prod, .int .i64 epoch, .int .i64 seq, .slice A L.length c]
  have y0 := (hbx.cell 0).trans rfl
  have y1 := (hbx.cell 1).trans rfl
  have y2 := (hbx.cell 2).trans rfl
  have y3 := (hbx.cell 3).trans rfl
  have y4 := (hbx.cell 4).trans rfl
  have y5 := (hbx.cell 5).trans rfl
  simp only [List.getElem?_toArray, List.getElem?_cons_zero, List.getElem?_cons_succ] at y0 y1 y2 y3 y4 y5
  have hS := And.intro y0 (And.intro y1 (And.intro y2 (And.intro y3 (And.intro y4 (And.intro y5 (And.intro hbx.lt hbel))))))
  clear hbx hbel
  unfold bnC
  simp only
  go_enter Tryz.func97, Tryz.ntmps97
  go_upto_region 1 with fail
  generalize hW0 : (W.alloc (.cells #[.int .i64 base, .int .i64 span, .int .i64 prod, .int .i64 epoch, .int .i64 seq, .slice A L.length c] 44)) = W0 at *
  clear hW0
  go_cut [3] (fun f w => f = .string (g1 ++ g2 ++ g3 ++ g4 ++ g5 ++ g6) ∧ w.cell? ⟨W.heap.size, 0, none⟩ = some (.int .i64 base) ∧ w.cell? ⟨W.heap.size, 1, none⟩ = some (.int .i64 span) ∧ w.cell? ⟨W.heap.size, 2, none⟩ = some (.int .i64 prod) ∧ w.cell? ⟨W.heap.size, 3, none⟩ = some (.int .i64 epoch) ∧ w.cell? ⟨W.heap.size, 4, none⟩ = some (.int .i64 seq) ∧ w.cell? ⟨W.heap.size, 5, none⟩ = some (.slice A L.length c) ∧ W.heap.size < w.heap.size ∧ Below W.heap.size W w)
  case first =>
    go_region_held3 (fun w => w.cell? ⟨W.heap.size, 0, none⟩ = some (.int .i64 base) ∧ w.cell? ⟨W.heap.size, 1, none⟩ = some (.int .i64 span) ∧ w.cell? ⟨W.heap.size, 2, none⟩ = some (.int .i64 prod) ∧ w.cell? ⟨W.heap.size, 3, none⟩ = some (.int .i64 epoch) ∧ w.cell? ⟨W.heap.size, 4, none⟩ = some (.int .i64 seq) ∧ w.cell? ⟨W.heap.size, 5, none⟩ = some (.slice A L.length c) ∧ W.heap.size < w.heap.size ∧ Below W.heap.size W w)
      (first | exact bnS_later hS ((Below.refl _ _).drew) | exact bnS_later (by assumption) (by assumption))
      (first
        | ((with_reducible refine (c1 _).mono ?_); rintro e w2 ⟨rfl, hb2⟩)
        | ((with_reducible refine (c2 _).mono ?_); rintro e w2 ⟨rfl, hb2⟩)
        | ((with_reducible refine (c3 _).mono ?_); rintro e w2 ⟨rfl, hb2⟩)
        | ((with_reducible refine (c4 _).mono ?_); rintro e w2 ⟨rfl, hb2⟩)
        | ((with_reducible refine (c5 _).mono ?_); rintro e w2 ⟨rfl, hb2⟩)
        | ((with_reducible refine (c6 _).mono ?_); rintro e w2 ⟨rfl, hb2⟩))
    all_goals go_wp2_with fail
    all_goals go_meet
    all_goals exact ⟨rfl, by assumption⟩
  case rest =>
    clear hS y0 y1 y2 y3 y4 y5 c1 c2 c3 c4 c5 c6 a2 a3 a4 a5 a6 b2 b3 b4 b5
    generalize g1 ++ g2 ++ g3 ++ g4 ++ g5 ++ g6 = G at *
    obtain ⟨rfl, _, _, _, _, _, hx5, hxl, hxb⟩ := hcut
    go_wp2_with fail
    have h00 : G = G ++ ⟨(encsL (L.take 0)).toArray⟩ := by
      apply ByteArray.ext
      simp [encsL]
    have H00 := Lib.hid h00
    clear h00
    go_loopw [3, 4] (fun st i wr => ∃ k : Nat, i = .int .i64 k ∧ k ≤ L.length ∧ st = .string (G ++ ⟨(encsL (L.take k)).toArray⟩) ∧ wr.cell? ⟨W.heap.size, 5, none⟩ = some (.slice A L.length c) ∧ W.heap.size < wr.heap.size ∧ Below W.heap.size W wr) (fun _ i _ => L.length - (intOf i).toNat)
    case atStart => exact ⟨0, rfl, Nat.zero_le _, congrArg Value.string H00.out, hx5, hxl, hxb⟩
    case round =>
      obtain ⟨k, rfl, hkl, rfl, y5, yl, yb⟩ := hrel
      clear hx5 hxl hxb H00
      by_cases hk : k < L.length
      · obtain ⟨x, hx⟩ : ∃ x, L[k]? = some x := ⟨_, List.getElem?_eq_getElem hk⟩
        obtain ⟨bb, off, rfl, hlt, hall⟩ := (h.below yb) (by omega)
        obtain ⟨⟨x0, x1, x2, x3, x4, x5, x6⟩, hRI⟩ := hall k x hx
        have hxm : x ∈ L := List.mem_of_getElem? hx
        have hok := ha x hxm
        have ce := renc_c x.1 x.2.1 x.2.2 wr hRI
        rw [if_pos hok, show recE x.1 = 0 by unfold recE; rw [if_pos hok]] at ce
        have zl : (⟨(encsL (L.take k)).toArray⟩ : ByteArray).size ≤ 1115000 := by
          show (encsL (L.take k)).length ≤ _
          have hle := encsL_le (L.take k) (fun y hy => ha y (List.mem_of_mem_take hy))
          rw [List.length_take] at hle
          have : min k L.length ≤ 50 := by omega
          omega
        have ze : (encR x.1).size ≤ 22300 := encL_le hok
        have zg := cat_le b6 zl
        have hsuc : G ++ ⟨(encsL (L.take (k + 1))).toArray⟩ = G ++ ⟨(encsL (L.take k)).toArray⟩ ++ encR x.1 := by
          rw [encsL_take_succ hx]
          apply ByteArray.ext
          simp [encR]
        have HS1 := Lib.hid hsuc
        generalize encR x.1 = E1 at *
        generalize G ++ ⟨(encsL (L.take k)).toArray⟩ = X at *
        have a1 := add_run (P := Tryz.prog) zg ze (by decide)
        have HY := Lib.hid (And.intro y5 (And.intro yl yb))
        clear hsuc zl ze zg hall hok hxm hlt
        unfold recV recC at ce
        go_wp2_with fail
        (with_reducible refine ce.mono ?_)
        rintro e w2 ⟨rfl, hb2⟩
        have hz5 : w2.cell? ⟨W.heap.size, 5, none⟩ = some (.slice (some ⟨bb, off, none⟩) L.length c) := (hb2.cell (p := ⟨W.heap.size, 5, none⟩) HY.out.2.1).trans HY.out.1
        have HZ := Lib.hid (And.intro (Nat.lt_of_lt_of_le HY.out.2.1 hb2.size) (HY.out.2.2.trans (hb2.mono (Nat.le_of_lt HY.out.2.1))))
        clear hb2
        go_wp2
        go_roundw
        case rel => exact ⟨k + 1, by go_num, hk, congrArg Value.string HS1.out.symm, hz5, HZ.out.1, HZ.out.2⟩
        case measure => simp [intOf]; omega
      · have hF : Hid (res = G ++ ⟨(encsL (L.take k)).toArray⟩) := Lib.hid (by rw [HE.out, List.take_of_length_le (by omega)])
        generalize G ++ ⟨(encsL (L.take k)).toArray⟩ = X at *
        go_wp2
        go_ret
        exact ⟨by rw [hF.out]; rfl, yb⟩
end Go.Proofs.YtjnphajkoopkgaaGreatDoor
/- The document's Check of a batch. -/
namespace Go.Proofs.YtjnphajkoopkgaaGreatDoor
open Go.RowKit
set_option linter.unusedVariables false
/-- Records that may be, at places that rise. -/
def goodL (span : Int) : Int → List RX → Bool
 | _, [] => true
 | last, x :: r => okRec x.1 && (decide (x.1.place < span) && (decide (last < x.1.place) && goodL span x.1.place r))
theorem goodL_eq (span : Int) : ∀ (L : List RX) (last : Int), goodL span last L = (placedL span last L && L.all fun x => okRec x.1)
 | [], _ => rfl
 | x :: r, last => by
  unfold goodL placedL
  rw [goodL_eq span r]
  simp only [List.all_cons]
  cases okRec x.1 <;> cases decide (x.1.place < span) <;> cases decide (last < x.1.place) <;> simp
theorem goodL_drop {span last : Int} {L : List RX} {j : Nat} {x : RX} (h : L[j]? = some x) : goodL span last (L.drop j) = (okRec x.1 && (decide (x.1.place < span) && (decide (last < x.1.place) && goodL span x.1.place (L.drop (j + 1))))) := by
 obtain ⟨hj, hx⟩ := List.getElem?_eq_some_iff.1 h
 rw [List.drop_eq_getElem_cons hj, hx]
 rfl
/-- What stands beside the cells that a round of the document's Check reads. -/
structure ChkS (W wr : World) (bb : Nat) (cs : Array Value) (w : World) : Prop where
 bel : Below W.heap.size W w
 box : Box w W.heap.size 44 cs
 al : Below wr.heap.size wr w
 lt : wr.heap.size < w.heap.size
 bl : bb < w.heap.size
theorem chkS_later {W wr w w' : World} {bb qo : Nat} {cs : Array Value} {v0 v1 v2 v3 v4 v5 v6 v7 v8 v9 : Value}
  (h : w.cell? ⟨wr.heap.size, 0, none⟩ = some (v0) ∧ w.cell? ⟨wr.heap.size, 1, none⟩ = some (v1) ∧ w.cell? ⟨wr.heap.size, 2, none⟩ = some (v2) ∧ w.cell? ⟨wr.heap.size, 3, none⟩ = some (v3) ∧ w.cell? ⟨wr.heap.size, 4, none⟩ = some (v4) ∧ w.cell? ⟨wr.heap.size, 5, none⟩ = some (v5) ∧ w.cell? ⟨wr.heap.size, 6, none⟩ = some (v6) ∧ w.cell? ⟨W.heap.size, 1, none⟩ = some (v7) ∧ w.cell? ⟨W.heap.size, 5, none⟩ = some (v8) ∧ w.cell? ⟨bb, qo, none⟩ = some (v9) ∧ ChkS W wr bb cs w)
  (hb : Below w.heap.size w w') :
  w'.cell? ⟨wr.heap.size, 0, none⟩ = some (v0) ∧ w'.cell? ⟨wr.heap.size, 1, none⟩ = some (v1) ∧ w'.cell? ⟨wr.heap.size, 2, none⟩ = some (v2) ∧ w'.cell? ⟨wr.heap.size, 3, none⟩ = some (v3) ∧ w'.cell? ⟨wr.heap.size, 4, none⟩ = some (v4) ∧ w'.cell? ⟨wr.heap.size, 5, none⟩ = some (v5) ∧ w'.cell? ⟨wr.heap.size, 6, none⟩ = some (v6) ∧ w'.cell? ⟨W.heap.size, 1, none⟩ = some (v7) ∧ w'.cell? ⟨W.heap.size, 5, none⟩ = some (v8) ∧ w'.cell? ⟨bb, qo, none⟩ = some (v9) ∧ ChkS W wr bb cs w' := by
 obtain ⟨h0, h1, h2, h3, h4, h5, h6, h7, h8, h9, ⟨s1, s2, s3, s4, s5⟩⟩ := h
 have k := fun j => hb.cell (p := ⟨wr.heap.size, j, none⟩) s4
 have m := fun j => hb.cell (p := ⟨W.heap.size, j, none⟩) s2.lt
 exact ⟨(k 0).trans h0, (k 1).trans h1, (k 2).trans h2, (k 3).trans h3, (k 4).trans h4, (k 5).trans h5, (k 6).trans h6, (m 1).trans h7, (m 5).trans h8, (hb.cell (p := ⟨bb, qo, none⟩) s5).trans h9,
  ⟨s1.trans (hb.mono s1.size), s2.later hb, s3.trans (hb.mono s3.size), Nat.lt_of_lt_of_le s4 hb.size, Nat.lt_of_lt_of_le s5 hb.size⟩⟩
/-- Whether a batch may be. -/
def batB (b : BN) (L : List RX) : Bool := numB b && (decide (L.length ≤ 50) && (goodL b.span (-1) L && decide ((bodyL b L).length ≤ 60000)))
section
variable {P : Program} {md : Region.Mode} {l : List Oper} {Q : Exit → Act → World → Prop} {S : World → Prop}
theorem takeW {i : Nat} {oi : Oper} {v : Value} {fuel : Nat} {listed : Array Bool} {a : Act} {w : World} (hi : l[i]? = some oi)
  (hs : Region.noSelect l.toArray = true) (hf : Region.free md l.toArray listed i = true) (hr : (Region.ready md l.toArray listed).contains i = true)
  (hQ : ∀ c a w, Q (.panic c) (a.put oi.dst v) w → Q (.panic c) a w) (hw : Region.wanted oi (yielded l.toArray a.tmps) = true) (hS : S w) (hy : ∀ w, S w → (execOp a.eval oi).run P w = .ok (.value v) w)
  (h : wpAnyH P md l.toArray Q S fuel (listed.setIfInBounds i true) (a.put oi.dst v) w) : wpAnyH P md l.toArray Q S (fuel + 1) listed a w :=
 wpAnyH_take (List.getElem?_toArray.trans hi) hs hf hr hQ (.inl ⟨hw, hy⟩) hS h
theorem takeU {i : Nat} {oi : Oper} {fuel : Nat} {listed : Array Bool} {a : Act} {w : World} (hi : l[i]? = some oi)
  (hs : Region.noSelect l.toArray = true) (hf : Region.free md l.toArray listed i = true) (hr : (Region.ready md l.toArray listed).contains i = true)
  (hQ : ∀ c a w, Q (.panic c) (a.put oi.dst undef) w → Q (.panic c) a w) (hw : Region.wanted oi (yielded l.toArray a.tmps) = false) (hS : S w)
  (h : wpAnyH P md l.toArray Q S fuel (listed.setIfInBounds i true) (a.put oi.dst undef) w) : wpAnyH P md l.toArray Q S (fuel + 1) listed a w :=
 wpAnyH_take (List.getElem?_toArray.trans hi) hs hf hr hQ (.inr ⟨hw, rfl⟩) hS h
theorem consL {i : Nat} {o : Oper} {rs : List Nat} {fuel : Nat} {listed : Array Bool} {a : Act} {w : World} (hi : l[i]? = some o) (hw : Region.wanted o (yielded l.toArray a.tmps) = true)
  (h : ∀ K' : Act → World → Prop, Shut (∀ a w, S w → (S w → wpAnyH P md l.toArray Q S fuel (listed.setIfInBounds i true) a w) → K' a w) → Oper.wp P o a w K' Q)
  (hs : AllReadyH P md l.toArray Q S fuel listed a w rs) : AllReadyH P md l.toArray Q S fuel listed a w (i :: rs) :=
 AllReadyH.cons (List.getElem?_toArray.trans hi) (fun K' hK => by rw [if_pos hw]; exact h K' hK) hs
end
theorem okRec_place {r : Rec} (h : okRec r = true) : (-1 : Int) < r.place := by
 obtain ⟨⟨p0, p1, t0, t1⟩, _⟩ := okRec_parts h
 omega
def batE (b : BN) (L : List RX) : Int := if batB b L = true then 0 else 1
/-- The place ahead of the k-th record. -/
def prevP (L : List RX) : Nat → Int
 | 0 => -1
 | k + 1 => match L[k]? with | some x => x.1.place | none => -1
theorem numB_whoB {base span prod epoch seq : Int} (h1 : 0 ≤ base) (h2 : base ≤ 1099511627776) (h3 : 1 ≤ span) (h4 : span ≤ 50) : numB ⟨base, span, prod, epoch, seq⟩ = whoB ⟨base, span, prod, epoch, seq⟩ := by
 unfold numB whoB wi
 simp [h1, h2, h3, h4]
set_option maxHeartbeats 16000000 in
set_option maxRecDepth 100000 in
theorem rcheck5_c (b : BN) (A : Option Addr) (c : Nat) (L : List RX) (W : World) (h : RsIn W A L) (hlen : L.length ≤ 140737488351232) :
  Calls Tryz.prog 96 #[.agg (bnC b (.slice A L.length c))] W (Good W (.int .i64 (batE b L))) := by
 obtain ⟨base, span, prod, epoch, seq⟩ := b
 have hbel : Below W.heap.size W (W.alloc (.cells #[.int .i64 base, .int .i64 span, .int .i64 prod, .int .i64 epoch, .int .i64 seq, .slice A L.length c] 44)) := (Below.refl _ W).alloc (Nat.le_refl _) _
 have hbx := Box.new W 44 #[.int .i64 base, .int .i64 span, .int .i64 prod, .int .i64 epoch, .int .i64 seq, .slice A L.length c]
 have y0 := (hbx.cell 0).trans rfl
 have y1 := (hbx.cell 1).trans rfl
 have y2 := (hbx.cell 2).trans rfl
 have y3 := (hbx.cell 3).trans rfl
 have y4 := (hbx.cell 4).trans rfl
 have y5 := (hbx.cell 5).trans rfl
 simp only [List.getElem?_toArray, List.getElem?_cons_zero, List.getElem?_cons_succ] at y0 y1 y2 y3 y4 y5
 have HX := Lib.hid (And.intro hbel hbx)
 clear hbel hbx
 obtain ⟨res, hres⟩ : ∃ res, batE ⟨base, span, prod, epoch, seq⟩ L = res := ⟨_, rfl⟩
 rw [hres]
 have HR := Lib.hid hres
 clear hres
 have cw := fun v w => who_c ⟨base, span, prod, epoch, seq⟩ v w
 unfold bnC at *
 simp only at *
 by_cases q1 : base < 0
 ·
  have hr : res = 1 := by rw [← HR.out]; unfold batE batB; rw [show numB ⟨base, span, prod, epoch, seq⟩ = false by unfold numB wi; rw [decide_eq_false (show ¬ (0:Int) ≤ base by omega)]; simp]; simp
  subst hr
  go_enter Tryz.func96, Tryz.ntmps96
  go_wp2_with ((with_reducible refine (cw _ _).mono ?_); rintro e w1 ⟨rfl, hb1⟩)
  go_ret
  exact ⟨rfl, HX.out.1⟩
 by_cases q2 : 1099511627776 < base
 ·
  have hr : res = 1 := by rw [← HR.out]; unfold batE batB; rw [show numB ⟨base, span, prod, epoch, seq⟩ = false by unfold numB wi; rw [decide_eq_false (show ¬ base ≤ 1099511627776 by omega)]; simp]; simp
  subst hr
  go_enter Tryz.func96, Tryz.ntmps96
  go_wp2_with ((with_reducible refine (cw _ _).mono ?_); rintro e w1 ⟨rfl, hb1⟩)
  go_ret
  exact ⟨rfl, HX.out.1⟩
 by_cases q3 : span < 1
 ·
  have hr : res = 1 := by rw [← HR.out]; unfold batE batB; rw [show numB ⟨base, span, prod, epoch, seq⟩ = false by unfold numB wi; simp only; rw [decide_eq_false (show ¬ (1:Int) ≤ span by omega)]; simp]; simp
  subst hr
  go_enter Tryz.func96, Tryz.ntmps96
  go_wp2_with ((with_reducible refine (cw _ _).mono ?_); rintro e w1 ⟨rfl, hb1⟩)
  go_ret
  exact ⟨rfl, HX.out.1⟩
 by_cases q4 : 50 < span
 ·
  have hr : res = 1 := by rw [← HR.out]; unfold batE batB; rw [show numB ⟨base, span, prod, epoch, seq⟩ = false by unfold numB wi; simp only; rw [decide_eq_false (show ¬ span ≤ 50 by omega)]; simp]; simp
  subst hr
  go_enter Tryz.func96, Tryz.ntmps96
  go_wp2_with ((with_reducible refine (cw _ _).mono ?_); rintro e w1 ⟨rfl, hb1⟩)
  go_ret
  exact ⟨rfl, HX.out.1⟩
 have hnw := numB_whoB (prod := prod) (epoch := epoch) (seq := seq) (show 0 ≤ base by omega) (show base ≤ 1099511627776 by omega) (show 1 ≤ span by omega) (show span ≤ 50 by omega)
 cases hw : whoB ⟨base, span, prod, epoch, seq⟩ with
 | false =>
  rw [hw] at cw hnw
  have HN := Lib.hid hnw
  clear hnw hw
  have hr : res = 1 := by rw [← HR.out]; unfold batE batB; rw [HN.out]; simp
  subst hr
  go_enter Tryz.func96, Tryz.ntmps96
  go_wp2_with ((with_reducible refine (cw _ _).mono ?_); rintro e w1 ⟨rfl, hb1⟩)
  go_ret
  exact ⟨rfl, HX.out.1.trans (hb1.mono HX.out.1.size)⟩
 | true =>
  rw [hw] at cw hnw
  have HN := Lib.hid hnw
  clear hnw hw
  by_cases q5 : 50 < L.length
  ·
   have q5' : (50 : Int) < (L.length : Int) := by omega
   have hr : res = 1 := by rw [← HR.out]; unfold batE batB; rw [decide_eq_false (show ¬ L.length ≤ 50 by omega)]; simp
   subst hr
   go_enter Tryz.func96, Tryz.ntmps96
   go_wp2_with fail
   (with_reducible refine (cw _ _).mono ?_)
   rintro e w1 ⟨rfl, hb1⟩
   have HW := Lib.hid (And.intro (HX.out.1.trans (hb1.mono HX.out.1.size)) (HX.out.2.later hb1))
   have z1 := (HW.out.2.cell 1).trans rfl
   have z5 := (HW.out.2.cell 5).trans rfl
   simp only [List.getElem?_toArray, List.getElem?_cons_zero, List.getElem?_cons_succ] at z1 z5
   clear hb1 HX y0 y1 y2 y3 y4 y5
   go_wp2_with fail
   go_ret
   exact ⟨rfl, HW.out.1⟩
  ·
   have q5' : ¬ (50 : Int) < (L.length : Int) := by omega
   go_enter Tryz.func96, Tryz.ntmps96
   go_wp2_with fail
   (with_reducible refine (cw _ _).mono ?_)
   rintro e w1 ⟨rfl, hb1⟩
   have HW := Lib.hid (And.intro (HX.out.1.trans (hb1.mono HX.out.1.size)) (HX.out.2.later hb1))
   have z1 := (HW.out.2.cell 1).trans rfl
   have z5 := (HW.out.2.cell 5).trans rfl
   simp only [List.getElem?_toArray, List.getElem?_cons_zero, List.getElem?_cons_succ] at z1 z5
   clear hb1 HX y0 y1 y2 y3 y4 y5
   go_wp2_with fail
   obtain ⟨g, hg⟩ : ∃ g, goodL span (prevP L 0) (L.drop 0) = g := ⟨_, rfl⟩
   have HG : Hid (goodL span (-1) L = g) := Lib.hid (by rw [← hg, List.drop_zero]; rfl)
   have HG0 := Lib.hid hg
   clear hg z1 z5 cw
   go_loopw [3, 4] (fun i _ wr => ∃ k : Nat, i = .int .i64 k ∧ k ≤ L.length ∧ goodL span (prevP L k) (L.drop k) = g ∧ Below W.heap.size W wr ∧ Box wr W.heap.size 44 #[.int .i64 base, .int .i64 span, .int .i64 prod, .int .i64 epoch, .int .i64 seq, .slice A L.length c]) (fun i _ _ => L.length - (intOf i).toNat)
   case atStart => exact ⟨0, rfl, Nat.zero_le _, HG0.out, HW.out.1, HW.out.2⟩
   case round =>
    obtain ⟨k, rfl, hkl, hgd, hbw, hbb⟩ := hrel
    by_cases hk : k < L.length
    ·
     obtain ⟨x, hx⟩ : ∃ x, L[k]? = some x := ⟨_, List.getElem?_eq_getElem hk⟩
     obtain ⟨bb, off, rfl, hlt, hall⟩ := (h.below hbw) (by omega)
     obtain ⟨⟨x0, x1, x2, x3, x4, x5, x6⟩, hRI⟩ := hall k x hx
     rw [goodL_drop hx] at hgd
     have y5 := (hbb.cell 5).trans rfl
     simp only [List.getElem?_toArray, List.getElem?_cons_zero, List.getElem?_cons_succ] at y5
     have hbr : Box (wr.alloc (.cells (recC x.1 x.2.1 x.2.2) 85)) wr.heap.size 85 (recC x.1 x.2.1 x.2.2) := Box.new wr 85 _
     have hb1 : Below W.heap.size W (wr.alloc (.cells (recC x.1 x.2.1 x.2.2) 85)) := hbw.alloc hbw.size _
     have hB1 : Box (wr.alloc (.cells (recC x.1 x.2.1 x.2.2) 85)) W.heap.size 44 #[.int .i64 base, .int .i64 span, .int .i64 prod, .int .i64 epoch, .int .i64 seq, .slice (some ⟨bb, off, none⟩) L.length c] := hbb.alloc _
     have hal : Below wr.heap.size wr (wr.alloc (.cells (recC x.1 x.2.1 x.2.2) 85)) := (Below.refl _ wr).alloc (Nat.le_refl _) _
     have cc := rcheck_c x.1 x.2.1 x.2.2 (wr.alloc (.cells (recC x.1 x.2.1 x.2.2) 85)) (hRI.below hal)
     obtain ⟨n0, n1, n2, n3, n4, n5, n6⟩ := recC_at hbr
     have H1 := Lib.hid (And.intro hb1 (And.intro hB1 (And.intro hbr hal)))
     have HA := Lib.hid (And.intro hlt hall)
     clear hb1 hB1 hbr hal hall hbw hbb hlt
     unfold recV recC at *
     go_wp2_with fail
     have hq : ∃ (qo : Nat) (qv : Int), wr.cell? ⟨bb, qo, none⟩ = some (.int .i64 qv) ∧ (k = 0 ∨ ∃ m, k = m + 1 ∧ qo = off + m * 7 ∧ qv = prevP L k) := by
      cases k with
      | zero => exact ⟨_, _, x0, .inl rfl⟩
      | succ m =>
       obtain ⟨y, hy⟩ : ∃ y, L[m]? = some y := ⟨_, List.getElem?_eq_getElem (by omega)⟩
       refine ⟨off + m * 7, y.1.place, (HA.out.2 m y hy).1.1, .inr ⟨m, rfl, rfl, ?_⟩⟩
       show _ = (match L[m]? with | some x => x.1.place | none => -1)
       rw [hy]
     obtain ⟨qo, qv, hq0, hqk⟩ := hq
     have hq1 := (H1.out.2.2.2.cell (p := ⟨bb, qo, none⟩) HA.out.1).trans hq0
     have z1 := (H1.out.2.1.cell 1).trans rfl
     have z5 := (H1.out.2.1.cell 5).trans rfl
     simp only [List.getElem?_toArray, List.getElem?_cons_zero, List.getElem?_cons_succ] at z1 z5
     have hS := And.intro n0 (And.intro n1 (And.intro n2 (And.intro n3 (And.intro n4 (And.intro n5 (And.intro n6 (And.intro z1 (And.intro z5 (And.intro hq1 (ChkS.mk H1.out.1 H1.out.2.1 H1.out.2.2.2 H1.out.2.2.1.lt (Nat.lt_of_lt_of_le HA.out.1 H1.out.2.2.2.size)))))))))))
     have hcc : ∀ w, (w.cell? ⟨wr.heap.size, 0, none⟩ = some (.int .i64 x.1.place) ∧ w.cell? ⟨wr.heap.size, 1, none⟩ = some (.int .i64 x.1.time) ∧ w.cell? ⟨wr.heap.size, 2, none⟩ = some (.bool x.1.bare) ∧ w.cell? ⟨wr.heap.size, 3, none⟩ = some (.string x.1.key) ∧ w.cell? ⟨wr.heap.size, 4, none⟩ = some (.bool x.1.gone) ∧ w.cell? ⟨wr.heap.size, 5, none⟩ = some (.string x.1.value) ∧ w.cell? ⟨wr.heap.size, 6, none⟩ = some (.slice x.2.1 x.1.heads.length x.2.2) ∧ w.cell? ⟨W.heap.size, 1, none⟩ = some (.int .i64 span) ∧ w.cell? ⟨W.heap.size, 5, none⟩ = some (.slice (some ⟨bb, off, none⟩) L.length c) ∧ w.cell? ⟨bb, qo, none⟩ = some (.int .i64 qv) ∧ ChkS W wr bb #[.int .i64 base, .int .i64 span, .int .i64 prod, .int .i64 epoch, .int .i64 seq, .slice (some ⟨bb, off, none⟩) L.length c] w) → Calls Tryz.prog 127 #[.agg #[.int .i64 x.1.place, .int .i64 x.1.time, .bool x.1.bare, .string x.1.key, .bool x.1.gone, .string x.1.value, .slice x.2.1 x.1.heads.length x.2.2]] w (Good w (.int .i64 (recE x.1))) := fun w hw => rcheck_c x.1 x.2.1 x.2.2 w (hRI.below hw.2.2.2.2.2.2.2.2.2.2.al)
     clear cc hq0 z1 z5 hq1 n0 n1 n2 n3 n4 n5 n6 x0 x1 x2 x3 x4 x5 x6 y5 HA
     have hSw : (fun w => w.cell? ⟨wr.heap.size, 0, none⟩ = some (.int .i64 x.1.place) ∧ w.cell? ⟨wr.heap.size, 1, none⟩ = some (.int .i64 x.1.time) ∧ w.cell? ⟨wr.heap.size, 2, none⟩ = some (.bool x.1.bare) ∧ w.cell? ⟨wr.heap.size, 3, none⟩ = some (.string x.1.key) ∧ w.cell? ⟨wr.heap.size, 4, none⟩ = some (.bool x.1.gone) ∧ w.cell? ⟨wr.heap.size, 5, none⟩ = some (.string x.1.value) ∧ w.cell? ⟨wr.heap.size, 6, none⟩ = some (.slice x.2.1 x.1.heads.length x.2.2) ∧ w.cell? ⟨W.heap.size, 1, none⟩ = some (.int .i64 span) ∧ w.cell? ⟨W.heap.size, 5, none⟩ = some (.slice (some ⟨bb, off, none⟩) L.length c) ∧ w.cell? ⟨bb, qo, none⟩ = some (.int .i64 qv) ∧ ChkS W wr bb #[.int .i64 base, .int .i64 span, .int .i64 prod, .int .i64 epoch, .int .i64 seq, .slice (some ⟨bb, off, none⟩) L.length c] w) (wr.alloc (.cells #[.int .i64 x.1.place, .int .i64 x.1.time, .bool x.1.bare, .string x.1.key, .bool x.1.gone, .string x.1.value, .slice x.2.1 x.1.heads.length x.2.2] 85)).drew := chkS_later hS ((Below.refl _ _).drew)
     by_cases t1 : okRec x.1 = true
     ·
      have e1 : recE x.1 = 0 := by unfold recE; rw [if_pos t1]
      rw [e1] at hcc
      by_cases t2 : span ≤ x.1.place
      ·
       have hgf : g = false := by rw [← hgd, decide_eq_false (show ¬ x.1.place < span by omega)]; simp
       have hr : res = 1 := by rw [← HR.out]; unfold batE batB; rw [HG.out, hgf]; simp
       subst hr
       clear hgd hqk
       refine wp_region_held_drew (S := (fun w => w.cell? ⟨wr.heap.size, 0, none⟩ = some (.int .i64 x.1.place) ∧ w.cell? ⟨wr.heap.size, 1, none⟩ = some (.int .i64 x.1.time) ∧ w.cell? ⟨wr.heap.size, 2, none⟩ = some (.bool x.1.bare) ∧ w.cell? ⟨wr.heap.size, 3, none⟩ = some (.string x.1.key) ∧ w.cell? ⟨wr.heap.size, 4, none⟩ = some (.bool x.1.gone) ∧ w.cell? ⟨wr.heap.size, 5, none⟩ = some (.string x.1.value) ∧ w.cell? ⟨wr.heap.size, 6, none⟩ = some (.slice x.2.1 x.1.heads.length x.2.2) ∧ w.cell? ⟨W.heap.size, 1, none⟩ = some (.int .i64 span) ∧ w.cell? ⟨W.heap.size, 5, none⟩ = some (.slice (some ⟨bb, off, none⟩) L.length c) ∧ w.cell? ⟨bb, qo, none⟩ = some (.int .i64 qv) ∧ ChkS W wr bb #[.int .i64 base, .int .i64 span, .int .i64 prod, .int .i64 epoch, .int .i64 seq, .slice (some ⟨bb, off, none⟩) L.length c] w)) (by kernel_rfl) hSw (fun hHeld => ?_)
       refine takeW (i := 0) (v := ?v1) rfl (by kernel_rfl) (by kernel_rfl) (by kernel_rfl) (fun _ _ _ h => h) (by kernel_rfl) hHeld ?hy1 ?rest1
       case hy1 => (intro w hSw; (try dsimp only at hSw); go_simp; (try with_reducible rfl))
       try simp only [Act.put, List.setIfInBounds_toArray, List.set_cons_zero, List.set_cons_succ]
       refine wpAnyH_ready (rs := [1]) (by kernel_rfl) (by simp) ?_
       refine consL rfl (by kernel_rfl) (fun K hK => ?_) AllReadyH.nil
       go_simp
       (with_reducible refine (hcc _ hHeld).mono ?_)
       rintro e w2 ⟨rfl, hb2⟩
       refine hK.out _ _ (chkS_later hHeld hb2) (fun hHeld => ?_)
       clear hK K
       try simp only [Act.put, List.setIfInBounds_toArray, List.set_cons_zero, List.set_cons_succ]
       refine takeW (i := 2) (v := ?v2) rfl (by kernel_rfl) (by kernel_rfl) (by kernel_rfl) (fun _ _ _ h => h) (by kernel_rfl) hHeld ?hy2 ?rest2
       case hy2 => (intro w hSw; (try dsimp only at hSw); go_simp; (try with_reducible rfl))
       try simp only [Act.put, List.setIfInBounds_toArray, List.set_cons_zero, List.set_cons_succ]
       refine takeW (i := 3) (v := ?v3) rfl (by kernel_rfl) (by kernel_rfl) (by kernel_rfl) (fun _ _ _ h => h) (by kernel_rfl) hHeld ?hy3 ?rest3
       case hy3 => (intro w hSw; (try dsimp only at hSw); go_simp; (try with_reducible rfl))
       try simp only [Act.put, List.setIfInBounds_toArray, List.set_cons_zero, List.set_cons_succ]
       refine takeW (i := 4) (v := ?v4) rfl (by kernel_rfl) (by kernel_rfl) (by kernel_rfl) (fun _ _ _ h => h) (by kernel_rfl) hHeld ?hy4 ?rest4
       case hy4 => (intro w hSw; (try dsimp only at hSw); go_simp; (try with_reducible rfl))
       try simp only [Act.put, List.setIfInBounds_toArray, List.set_cons_zero, List.set_cons_succ]
       refine takeW (i := 5) (v := ?v5) rfl (by kernel_rfl) (by kernel_rfl) (by kernel_rfl) (fun _ _ _ h => h) (by kernel_rfl) hHeld ?hy5 ?rest5
       case hy5 => (intro w hSw; (try dsimp only at hSw); go_simp; (try with_reducible rfl))
       try simp only [Act.put, List.setIfInBounds_toArray, List.set_cons_zero, List.set_cons_succ]
       refine takeW (i := 6) (v := ?v6) rfl (by kernel_rfl) (by kernel_rfl) (by kernel_rfl) (fun _ _ _ h => h) (by kernel_rfl) hHeld ?hy6 ?rest6
       case hy6 => (intro w hSw; (try dsimp only at hSw); go_simp; (try with_reducible rfl))
       try simp only [Act.put, List.setIfInBounds_toArray, List.set_cons_zero, List.set_cons_succ]
       refine takeW (i := 7) (v := ?v7) rfl (by kernel_rfl) (by kernel_rfl) (by kernel_rfl) (fun _ _ _ h => h) (by kernel_rfl) hHeld ?hy7 ?rest7
       case hy7 => (intro w hSw; (try dsimp only at hSw); go_simp; (try with_reducible rfl))
       try simp only [Act.put, List.setIfInBounds_toArray, List.set_cons_zero, List.set_cons_succ]
       refine takeW (i := 8) (v := ?v8) rfl (by kernel_rfl) (by kernel_rfl) (by kernel_rfl) (fun _ _ _ h => h) (by kernel_rfl) hHeld ?hy8 ?rest8
       case hy8 => (intro w hSw; (try dsimp only at hSw); go_simp; (try with_reducible rfl))
       try simp only [Act.put, List.setIfInBounds_toArray, List.set_cons_zero, List.set_cons_succ]
       refine takeW (i := 9) (v := ?v9) rfl (by kernel_rfl) (by kernel_rfl) (by kernel_rfl) (fun _ _ _ h => h) (by kernel_rfl) hHeld ?hy9 ?rest9
       case hy9 => (intro w hSw; (try dsimp only at hSw); go_simp; (try with_reducible rfl))
       try simp only [Act.put, List.setIfInBounds_toArray, List.set_cons_zero, List.set_cons_succ]
       refine takeW (i := 10) (v := ?v10) rfl (by kernel_rfl) (by kernel_rfl) (by kernel_rfl) (fun _ _ _ h => h) (by kernel_rfl) hHeld ?hy10 ?rest10
       case hy10 => (intro w hSw; (try dsimp only at hSw); go_simp; (try with_reducible rfl))
       try simp only [Act.put, List.setIfInBounds_toArray, List.set_cons_zero, List.set_cons_succ]
       refine takeU (i := 11) rfl (by kernel_rfl) (by kernel_rfl) (by kernel_rfl) (fun _ _ _ h => h) (by kernel_rfl) hHeld ?_
       try simp only [Act.put, List.setIfInBounds_toArray, List.set_cons_zero, List.set_cons_succ]
       refine takeU (i := 12) rfl (by kernel_rfl) (by kernel_rfl) (by kernel_rfl) (fun _ _ _ h => h) (by kernel_rfl) hHeld ?_
       try simp only [Act.put, List.setIfInBounds_toArray, List.set_cons_zero, List.set_cons_succ]
       refine takeU (i := 13) rfl (by kernel_rfl) (by kernel_rfl) (by kernel_rfl) (fun _ _ _ h => h) (by kernel_rfl) hHeld ?_
       try simp only [Act.put, List.setIfInBounds_toArray, List.set_cons_zero, List.set_cons_succ]
       refine takeU (i := 14) rfl (by kernel_rfl) (by kernel_rfl) (by kernel_rfl) (fun _ _ _ h => h) (by kernel_rfl) hHeld ?_
       try simp only [Act.put, List.setIfInBounds_toArray, List.set_cons_zero, List.set_cons_succ]
       refine takeU (i := 15) rfl (by kernel_rfl) (by kernel_rfl) (by kernel_rfl) (fun _ _ _ h => h) (by kernel_rfl) hHeld ?_
       try simp only [Act.put, List.setIfInBounds_toArray, List.set_cons_zero, List.set_cons_succ]
       refine takeU (i := 16) rfl (by kernel_rfl) (by kernel_rfl) (by kernel_rfl) (fun _ _ _ h => h) (by kernel_rfl) hHeld ?_
       try simp only [Act.put, List.setIfInBounds_toArray, List.set_cons_zero, List.set_cons_succ]
       refine takeU (i := 17) rfl (by kernel_rfl) (by kernel_rfl) (by kernel_rfl) (fun _ _ _ h => h) (by kernel_rfl) hHeld ?_
       try simp only [Act.put, List.setIfInBounds_toArray, List.set_cons_zero, List.set_cons_succ]
       refine takeU (i := 18) rfl (by kernel_rfl) (by kernel_rfl) (by kernel_rfl) (fun _ _ _ h => h) (by kernel_rfl) hHeld ?_
       try simp only [Act.put, List.setIfInBounds_toArray, List.set_cons_zero, List.set_cons_succ]
       refine takeU (i := 19) rfl (by kernel_rfl) (by kernel_rfl) (by kernel_rfl) (fun _ _ _ h => h) (by kernel_rfl) hHeld ?_
       try simp only [Act.put, List.setIfInBounds_toArray, List.set_cons_zero, List.set_cons_succ]
       refine takeU (i := 20) rfl (by kernel_rfl) (by kernel_rfl) (by kernel_rfl) (fun _ _ _ h => h) (by kernel_rfl) hHeld ?_
       try simp only [Act.put, List.setIfInBounds_toArray, List.set_cons_zero, List.set_cons_succ]
       refine takeU (i := 21) rfl (by kernel_rfl) (by kernel_rfl) (by kernel_rfl) (fun _ _ _ h => h) (by kernel_rfl) hHeld ?_
       try simp only [Act.put, List.setIfInBounds_toArray, List.set_cons_zero, List.set_cons_succ]
       refine takeU (i := 22) rfl (by kernel_rfl) (by kernel_rfl) (by kernel_rfl) (fun _ _ _ h => h) (by kernel_rfl) hHeld ?_
       try simp only [Act.put, List.setIfInBounds_toArray, List.set_cons_zero, List.set_cons_succ]
       refine takeU (i := 23) rfl (by kernel_rfl) (by kernel_rfl) (by kernel_rfl) (fun _ _ _ h => h) (by kernel_rfl) hHeld ?_
       try simp only [Act.put, List.setIfInBounds_toArray, List.set_cons_zero, List.set_cons_succ]
       refine takeU (i := 24) rfl (by kernel_rfl) (by kernel_rfl) (by kernel_rfl) (fun _ _ _ h => h) (by kernel_rfl) hHeld ?_
       try simp only [Act.put, List.setIfInBounds_toArray, List.set_cons_zero, List.set_cons_succ]
       refine takeW (i := 25) (v := ?v11) rfl (by kernel_rfl) (by kernel_rfl) (by kernel_rfl) (fun _ _ _ h => h) (by kernel_rfl) hHeld ?hy11 ?rest11
       case hy11 => (intro w hSw; (try dsimp only at hSw); go_simp; (try with_reducible rfl))
       try simp only [Act.put, List.setIfInBounds_toArray, List.set_cons_zero, List.set_cons_succ]
       refine wpAnyH_done (by kernel_rfl) ?_ _
       go_wp2_with fail
       go_ret
       exact ⟨rfl, hHeld.2.2.2.2.2.2.2.2.2.2.bel⟩
      ·
       have t2' : x.1.place < span := by omega
       have d2 : decide (span ≤ x.1.place) = false := decide_eq_false t2
       rcases hqk with rfl | ⟨m, rfl, rfl, rfl⟩
       ·
        have hpl : (-1 : Int) < x.1.place := by have := okRec_place t1; omega
        have HGD : Hid (goodL span (prevP L 1) (L.drop 1) = g) := Lib.hid (by
         rw [t1, decide_eq_true t2', show prevP L 0 = -1 from rfl, decide_eq_true hpl] at hgd
         have e9 : prevP L 1 = x.1.place := by show (match L[0]? with | some x => x.1.place | none => -1) = _; rw [hx]
         rw [e9]
         simpa using hgd)
        clear hgd
        refine wp_region_held_drew (S := (fun w => w.cell? ⟨wr.heap.size, 0, none⟩ = some (.int .i64 x.1.place) ∧ w.cell? ⟨wr.heap.size, 1, none⟩ = some (.int .i64 x.1.time) ∧ w.cell? ⟨wr.heap.size, 2, none⟩ = some (.bool x.1.bare) ∧ w.cell? ⟨wr.heap.size, 3, none⟩ = some (.string x.1.key) ∧ w.cell? ⟨wr.heap.size, 4, none⟩ = some (.bool x.1.gone) ∧ w.cell? ⟨wr.heap.size, 5, none⟩ = some (.string x.1.value) ∧ w.cell? ⟨wr.heap.size, 6, none⟩ = some (.slice x.2.1 x.1.heads.length x.2.2) ∧ w.cell? ⟨W.heap.size, 1, none⟩ = some (.int .i64 span) ∧ w.cell? ⟨W.heap.size, 5, none⟩ = some (.slice (some ⟨bb, off, none⟩) L.length c) ∧ w.cell? ⟨bb, qo, none⟩ = some (.int .i64 qv) ∧ ChkS W wr bb #[.int .i64 base, .int .i64 span, .int .i64 prod, .int .i64 epoch, .int .i64 seq, .slice (some ⟨bb, off, none⟩) L.length c] w)) (by kernel_rfl) hSw (fun hHeld => ?_)
        refine takeW (i := 0) (v := ?v12) rfl (by kernel_rfl) (by kernel_rfl) (by kernel_rfl) (fun _ _ _ h => h) (by kernel_rfl) hHeld ?hy12 ?rest12
        case hy12 => (intro w hSw; (try dsimp only at hSw); go_simp; (try with_reducible rfl))
        try simp only [Act.put, List.setIfInBounds_toArray, List.set_cons_zero, List.set_cons_succ]
        refine wpAnyH_ready (rs := [1]) (by kernel_rfl) (by simp) ?_
        refine consL rfl (by kernel_rfl) (fun K hK => ?_) AllReadyH.nil
        go_simp
        (with_reducible refine (hcc _ hHeld).mono ?_)
        rintro e w2 ⟨rfl, hb2⟩
        refine hK.out _ _ (chkS_later hHeld hb2) (fun hHeld => ?_)
        clear hK K
        try simp only [Act.put, List.setIfInBounds_toArray, List.set_cons_zero, List.set_cons_succ]
        refine takeW (i := 2) (v := ?v13) rfl (by kernel_rfl) (by kernel_rfl) (by kernel_rfl) (fun _ _ _ h => h) (by kernel_rfl) hHeld ?hy13 ?rest13
        case hy13 => (intro w hSw; (try dsimp only at hSw); go_simp; (try with_reducible rfl))
        try simp only [Act.put, List.setIfInBounds_toArray, List.set_cons_zero, List.set_cons_succ]
        refine takeW (i := 3) (v := ?v14) rfl (by kernel_rfl) (by kernel_rfl) (by kernel_rfl) (fun _ _ _ h => h) (by kernel_rfl) hHeld ?hy14 ?rest14
        case hy14 => (intro w hSw; (try dsimp only at hSw); go_simp; (try with_reducible rfl))
        try simp only [Act.put, List.setIfInBounds_toArray, List.set_cons_zero, List.set_cons_succ]
        refine takeW (i := 4) (v := ?v15) rfl (by kernel_rfl) (by kernel_rfl) (by kernel_rfl) (fun _ _ _ h => h) (by kernel_rfl) hHeld ?hy15 ?rest15
        case hy15 => (intro w hSw; (try dsimp only at hSw); go_simp; (try with_reducible rfl))
        try simp only [Act.put, List.setIfInBounds_toArray, List.set_cons_zero, List.set_cons_succ]
        refine takeW (i := 5) (v := ?v16) rfl (by kernel_rfl) (by kernel_rfl) (by kernel_rfl) (fun _ _ _ h => h) (by kernel_rfl) hHeld ?hy16 ?rest16
        case hy16 => (intro w hSw; (try dsimp only at hSw); go_simp; (try with_reducible rfl))
        try simp only [Act.put, List.setIfInBounds_toArray, List.set_cons_zero, List.set_cons_succ]
        refine takeW (i := 6) (v := ?v17) rfl (by kernel_rfl) (by kernel_rfl) (by kernel_rfl) (fun _ _ _ h => h) (by kernel_rfl) hHeld ?hy17 ?rest17
        case hy17 => (intro w hSw; (try dsimp only at hSw); go_simp; (try with_reducible rfl))
        try simp only [Act.put, List.setIfInBounds_toArray, List.set_cons_zero, List.set_cons_succ]
        refine takeW (i := 7) (v := ?v18) rfl (by kernel_rfl) (by kernel_rfl) (by kernel_rfl) (fun _ _ _ h => h) (by kernel_rfl) hHeld ?hy18 ?rest18
        case hy18 => (intro w hSw; (try dsimp only at hSw); go_simp; (try with_reducible rfl))
        try simp only [Act.put, List.setIfInBounds_toArray, List.set_cons_zero, List.set_cons_succ]
        refine takeW (i := 8) (v := ?v19) rfl (by kernel_rfl) (by kernel_rfl) (by kernel_rfl) (fun _ _ _ h => h) (by kernel_rfl) hHeld ?hy19 ?rest19
        case hy19 => (intro w hSw; (try dsimp only at hSw); go_simp; (try with_reducible rfl))
        try simp only [Act.put, List.setIfInBounds_toArray, List.set_cons_zero, List.set_cons_succ]
        refine takeW (i := 9) (v := ?v20) rfl (by kernel_rfl) (by kernel_rfl) (by kernel_rfl) (fun _ _ _ h => h) (by kernel_rfl) hHeld ?hy20 ?rest20
        case hy20 => (intro w hSw; (try dsimp only at hSw); go_simp; (try with_reducible rfl))
        try simp only [Act.put, List.setIfInBounds_toArray, List.set_cons_zero, List.set_cons_succ]
        refine takeW (i := 10) (v := ?v21) rfl (by kernel_rfl) (by kernel_rfl) (by kernel_rfl) (fun _ _ _ h => h) (by kernel_rfl) hHeld ?hy21 ?rest21
        case hy21 => (intro w hSw; (try dsimp only at hSw); go_simp; (try with_reducible rfl))
        try simp only [Act.put, List.setIfInBounds_toArray, List.set_cons_zero, List.set_cons_succ]
        refine takeW (i := 11) (v := ?v22) rfl (by kernel_rfl) (by kernel_rfl) (by kernel_rfl) (fun _ _ _ h => h) (by kernel_rfl) hHeld ?hy22 ?rest22
        case hy22 => (intro w hSw; (try dsimp only at hSw); go_simp; (try with_reducible rfl))
        try simp only [Act.put, List.setIfInBounds_toArray, List.set_cons_zero, List.set_cons_succ]
        refine takeW (i := 12) (v := ?v23) rfl (by kernel_rfl) (by kernel_rfl) (by kernel_rfl) (fun _ _ _ h => h) (by kernel_rfl) hHeld ?hy23 ?rest23
        case hy23 => (intro w hSw; (try dsimp only at hSw); go_simp; (try with_reducible rfl))
        try simp only [Act.put, List.setIfInBounds_toArray, List.set_cons_zero, List.set_cons_succ]
        refine takeW (i := 13) (v := ?v24) rfl (by kernel_rfl) (by kernel_rfl) (by kernel_rfl) (fun _ _ _ h => h) (by kernel_rfl) hHeld ?hy24 ?rest24
        case hy24 => (intro w hSw; (try dsimp only at hSw); go_simp; (try with_reducible rfl))
        try simp only [Act.put, List.setIfInBounds_toArray, List.set_cons_zero, List.set_cons_succ]
        refine takeU (i := 14) rfl (by kernel_rfl) (by kernel_rfl) (by kernel_rfl) (fun _ _ _ h => h) (by kernel_rfl) hHeld ?_
        try simp only [Act.put, List.setIfInBounds_toArray, List.set_cons_zero, List.set_cons_succ]
        refine takeU (i := 15) rfl (by kernel_rfl) (by kernel_rfl) (by kernel_rfl) (fun _ _ _ h => h) (by kernel_rfl) hHeld ?_
        try simp only [Act.put, List.setIfInBounds_toArray, List.set_cons_zero, List.set_cons_succ]
        refine takeU (i := 16) rfl (by kernel_rfl) (by kernel_rfl) (by kernel_rfl) (fun _ _ _ h => h) (by kernel_rfl) hHeld ?_
        try simp only [Act.put, List.setIfInBounds_toArray, List.set_cons_zero, List.set_cons_succ]
        refine takeU (i := 17) rfl (by kernel_rfl) (by kernel_rfl) (by kernel_rfl) (fun _ _ _ h => h) (by kernel_rfl) hHeld ?_
        try simp only [Act.put, List.setIfInBounds_toArray, List.set_cons_zero, List.set_cons_succ]
        refine takeU (i := 18) rfl (by kernel_rfl) (by kernel_rfl) (by kernel_rfl) (fun _ _ _ h => h) (by kernel_rfl) hHeld ?_
        try simp only [Act.put, List.setIfInBounds_toArray, List.set_cons_zero, List.set_cons_succ]
        refine takeU (i := 19) rfl (by kernel_rfl) (by kernel_rfl) (by kernel_rfl) (fun _ _ _ h => h) (by kernel_rfl) hHeld ?_
        try simp only [Act.put, List.setIfInBounds_toArray, List.set_cons_zero, List.set_cons_succ]
        refine takeU (i := 20) rfl (by kernel_rfl) (by kernel_rfl) (by kernel_rfl) (fun _ _ _ h => h) (by kernel_rfl) hHeld ?_
        try simp only [Act.put, List.setIfInBounds_toArray, List.set_cons_zero, List.set_cons_succ]
        refine takeU (i := 21) rfl (by kernel_rfl) (by kernel_rfl) (by kernel_rfl) (fun _ _ _ h => h) (by kernel_rfl) hHeld ?_
        try simp only [Act.put, List.setIfInBounds_toArray, List.set_cons_zero, List.set_cons_succ]
        refine takeU (i := 22) rfl (by kernel_rfl) (by kernel_rfl) (by kernel_rfl) (fun _ _ _ h => h) (by kernel_rfl) hHeld ?_
        try simp only [Act.put, List.setIfInBounds_toArray, List.set_cons_zero, List.set_cons_succ]
        refine takeU (i := 23) rfl (by kernel_rfl) (by kernel_rfl) (by kernel_rfl) (fun _ _ _ h => h) (by kernel_rfl) hHeld ?_
        try simp only [Act.put, List.setIfInBounds_toArray, List.set_cons_zero, List.set_cons_succ]
        refine takeW (i := 24) (v := ?v25) rfl (by kernel_rfl) (by kernel_rfl) (by kernel_rfl) (fun _ _ _ h => h) (by kernel_rfl) hHeld ?hy25 ?rest25
        case hy25 => (intro w hSw; (try dsimp only at hSw); go_simp; (try with_reducible rfl))
        try simp only [Act.put, List.setIfInBounds_toArray, List.set_cons_zero, List.set_cons_succ]
        refine takeW (i := 25) (v := ?v26) rfl (by kernel_rfl) (by kernel_rfl) (by kernel_rfl) (fun _ _ _ h => h) (by kernel_rfl) hHeld ?hy26 ?rest26
        case hy26 => (intro w hSw; (try dsimp only at hSw); go_simp; (try with_reducible rfl))
        try simp only [Act.put, List.setIfInBounds_toArray, List.set_cons_zero, List.set_cons_succ]
        refine wpAnyH_done (by kernel_rfl) ?_ _
        go_wp2_with fail
        go_roundw
        case rel => exact ⟨1, by go_num, hk, HGD.out, hHeld.2.2.2.2.2.2.2.2.2.2.bel, hHeld.2.2.2.2.2.2.2.2.2.2.box⟩
        case measure => simp [intOf]; omega
       ·
        have hm1 : ((m : Int) + 1 - 1) = (m : Int) := by omega
        have hm2 : (m : Int) < (L.length : Int) := by omega
        have hm3 : (0 : Int) ≤ (m : Int) := by omega
        have hwm : IntKind.i64.wrap (m : Int) = (m : Int) := IntWalk.i64_in (m : Int) (by omega)
        by_cases t3 : x.1.place ≤ prevP L (m + 1)
        ·
         have hgf : g = false := by rw [← hgd, decide_eq_false (show ¬ prevP L (m + 1) < x.1.place by omega)]; simp
         have hr : res = 1 := by rw [← HR.out]; unfold batE batB; rw [HG.out, hgf]; simp
         subst hr
         clear hgd
         refine wp_region_held_drew (S := (fun w => w.cell? ⟨wr.heap.size, 0, none⟩ = some (.int .i64 x.1.place) ∧ w.cell? ⟨wr.heap.size, 1, none⟩ = some (.int .i64 x.1.time) ∧ w.cell? ⟨wr.heap.size, 2, none⟩ = some (.bool x.1.bare) ∧ w.cell? ⟨wr.heap.size, 3, none⟩ = some (.string x.1.key) ∧ w.cell? ⟨wr.heap.size, 4, none⟩ = some (.bool x.1.gone) ∧ w.cell? ⟨wr.heap.size, 5, none⟩ = some (.string x.1.value) ∧ w.cell? ⟨wr.heap.size, 6, none⟩ = some (.slice x.2.1 x.1.heads.length x.2.2) ∧ w.cell? ⟨W.heap.size, 1, none⟩ = some (.int .i64 span) ∧ w.cell? ⟨W.heap.size, 5, none⟩ = some (.slice (some ⟨bb, off, none⟩) L.length c) ∧ w.cell? ⟨bb, off + m * 7, none⟩ = some (.int .i64 (prevP L (m + 1))) ∧ ChkS W wr bb #[.int .i64 base, .int .i64 span, .int .i64 prod, .int .i64 epoch, .int .i64 seq, .slice (some ⟨bb, off, none⟩) L.length c] w)) (by kernel_rfl) hSw (fun hHeld => ?_)
         refine takeW (i := 0) (v := ?v27) rfl (by kernel_rfl) (by kernel_rfl) (by kernel_rfl) (fun _ _ _ h => h) (by kernel_rfl) hHeld ?hy27 ?rest27
         case hy27 => (intro w hSw; (try dsimp only at hSw); go_simp; (try with_reducible rfl))
         try simp only [Act.put, List.setIfInBounds_toArray, List.set_cons_zero, List.set_cons_succ]
         refine wpAnyH_ready (rs := [1]) (by kernel_rfl) (by simp) ?_
         refine consL rfl (by kernel_rfl) (fun K hK => ?_) AllReadyH.nil
         go_simp
         (with_reducible refine (hcc _ hHeld).mono ?_)
         rintro e w2 ⟨rfl, hb2⟩
         refine hK.out _ _ (chkS_later hHeld hb2) (fun hHeld => ?_)
         clear hK K
         try simp only [Act.put, List.setIfInBounds_toArray, List.set_cons_zero, List.set_cons_succ]
         refine takeW (i := 2) (v := ?v28) rfl (by kernel_rfl) (by kernel_rfl) (by kernel_rfl) (fun _ _ _ h => h) (by kernel_rfl) hHeld ?hy28 ?rest28
         case hy28 => (intro w hSw; (try dsimp only at hSw); go_simp; (try with_reducible rfl))
         try simp only [Act.put, List.setIfInBounds_toArray, List.set_cons_zero, List.set_cons_succ]
         refine takeW (i := 3) (v := ?v29) rfl (by kernel_rfl) (by kernel_rfl) (by kernel_rfl) (fun _ _ _ h => h) (by kernel_rfl) hHeld ?hy29 ?rest29
         case hy29 => (intro w hSw; (try dsimp only at hSw); go_simp; (try with_reducible rfl))
         try simp only [Act.put, List.setIfInBounds_toArray, List.set_cons_zero, List.set_cons_succ]
         refine takeW (i := 4) (v := ?v30) rfl (by kernel_rfl) (by kernel_rfl) (by kernel_rfl) (fun _ _ _ h => h) (by kernel_rfl) hHeld ?hy30 ?rest30
         case hy30 => (intro w hSw; (try dsimp only at hSw); go_simp; (try with_reducible rfl))
         try simp only [Act.put, List.setIfInBounds_toArray, List.set_cons_zero, List.set_cons_succ]
         refine takeW (i := 5) (v := ?v31) rfl (by kernel_rfl) (by kernel_rfl) (by kernel_rfl) (fun _ _ _ h => h) (by kernel_rfl) hHeld ?hy31 ?rest31
         case hy31 => (intro w hSw; (try dsimp only at hSw); go_simp; (try with_reducible rfl))
         try simp only [Act.put, List.setIfInBounds_toArray, List.set_cons_zero, List.set_cons_succ]
         refine takeW (i := 6) (v := ?v32) rfl (by kernel_rfl) (by kernel_rfl) (by kernel_rfl) (fun _ _ _ h => h) (by kernel_rfl) hHeld ?hy32 ?rest32
         case hy32 => (intro w hSw; (try dsimp only at hSw); go_simp; (try with_reducible rfl))
         try simp only [Act.put, List.setIfInBounds_toArray, List.set_cons_zero, List.set_cons_succ]
         refine takeW (i := 7) (v := ?v33) rfl (by kernel_rfl) (by kernel_rfl) (by kernel_rfl) (fun _ _ _ h => h) (by kernel_rfl) hHeld ?hy33 ?rest33
         case hy33 => (intro w hSw; (try dsimp only at hSw); go_simp; (try with_reducible rfl))
         try simp only [Act.put, List.setIfInBounds_toArray, List.set_cons_zero, List.set_cons_succ]
         refine takeW (i := 8) (v := ?v34) rfl (by kernel_rfl) (by kernel_rfl) (by kernel_rfl) (fun _ _ _ h => h) (by kernel_rfl) hHeld ?hy34 ?rest34
         case hy34 => (intro w hSw; (try dsimp only at hSw); go_simp; (try with_reducible rfl))
         try simp only [Act.put, List.setIfInBounds_toArray, List.set_cons_zero, List.set_cons_succ]
         refine takeW (i := 9) (v := ?v35) rfl (by kernel_rfl) (by kernel_rfl) (by kernel_rfl) (fun _ _ _ h => h) (by kernel_rfl) hHeld ?hy35 ?rest35
         case hy35 => (intro w hSw; (try dsimp only at hSw); go_simp; (try with_reducible rfl))
         try simp only [Act.put, List.setIfInBounds_toArray, List.set_cons_zero, List.set_cons_succ]
         refine takeW (i := 10) (v := ?v36) rfl (by kernel_rfl) (by kernel_rfl) (by kernel_rfl) (fun _ _ _ h => h) (by kernel_rfl) hHeld ?hy36 ?rest36
         case hy36 => (intro w hSw; (try dsimp only at hSw); go_simp; (try with_reducible rfl))
         try simp only [Act.put, List.setIfInBounds_toArray, List.set_cons_zero, List.set_cons_succ]
         refine takeW (i := 11) (v := ?v37) rfl (by kernel_rfl) (by kernel_rfl) (by kernel_rfl) (fun _ _ _ h => h) (by kernel_rfl) hHeld ?hy37 ?rest37
         case hy37 => (intro w hSw; (try dsimp only at hSw); go_simp; (try with_reducible rfl))
         try simp only [Act.put, List.setIfInBounds_toArray, List.set_cons_zero, List.set_cons_succ]
         refine takeW (i := 12) (v := ?v38) rfl (by kernel_rfl) (by kernel_rfl) (by kernel_rfl) (fun _ _ _ h => h) (by kernel_rfl) hHeld ?hy38 ?rest38
         case hy38 => (intro w hSw; (try dsimp only at hSw); go_simp; (try with_reducible rfl))
         try simp only [Act.put, List.setIfInBounds_toArray, List.set_cons_zero, List.set_cons_succ]
         refine takeW (i := 13) (v := ?v39) rfl (by kernel_rfl) (by kernel_rfl) (by kernel_rfl) (fun _ _ _ h => h) (by kernel_rfl) hHeld ?hy39 ?rest39
         case hy39 => (intro w hSw; (try dsimp only at hSw); go_simp; (try with_reducible rfl))
         try simp only [Act.put, List.setIfInBounds_toArray, List.set_cons_zero, List.set_cons_succ]
         refine takeW (i := 14) (v := ?v40) rfl (by kernel_rfl) (by kernel_rfl) (by kernel_rfl) (fun _ _ _ h => h) (by kernel_rfl) hHeld ?hy40 ?rest40
         case hy40 => (intro w hSw; (try dsimp only at hSw); go_simp; (try with_reducible rfl))
         try simp only [Act.put, List.setIfInBounds_toArray, List.set_cons_zero, List.set_cons_succ]
         refine takeW (i := 15) (v := ?v41) rfl (by kernel_rfl) (by kernel_rfl) (by kernel_rfl) (fun _ _ _ h => h) (by kernel_rfl) hHeld ?hy41 ?rest41
         case hy41 => (intro w hSw; (try dsimp only at hSw); go_simp; (try with_reducible rfl))
         try simp only [Act.put, List.setIfInBounds_toArray, List.set_cons_zero, List.set_cons_succ]
         refine takeW (i := 16) (v := ?v42) rfl (by kernel_rfl) (by kernel_rfl) (by kernel_rfl) (fun _ _ _ h => h) (by kernel_rfl) hHeld ?hy42 ?rest42
         case hy42 => (intro w hSw; (try dsimp only at hSw); go_simp; (try with_reducible rfl))
         try simp only [Act.put, List.setIfInBounds_toArray, List.set_cons_zero, List.set_cons_succ]
         refine takeW (i := 17) (v := ?v43) rfl (by kernel_rfl) (by kernel_rfl) (by kernel_rfl) (fun _ _ _ h => h) (by kernel_rfl) hHeld ?hy43 ?rest43
         case hy43 => (intro w hSw; (try dsimp only at hSw); go_simp; (try with_reducible rfl))
         try simp only [Act.put, List.setIfInBounds_toArray, List.set_cons_zero, List.set_cons_succ]
         refine takeW (i := 18) (v := ?v44) rfl (by kernel_rfl) (by kernel_rfl) (by kernel_rfl) (fun _ _ _ h => h) (by kernel_rfl) hHeld ?hy44 ?rest44
         case hy44 => (intro w hSw; (try dsimp only at hSw); go_simp; (try with_reducible rfl))
         try simp only [Act.put, List.setIfInBounds_toArray, List.set_cons_zero, List.set_cons_succ]
         refine takeW (i := 19) (v := ?v45) rfl (by kernel_rfl) (by kernel_rfl) (by kernel_rfl) (fun _ _ _ h => h) (by kernel_rfl) hHeld ?hy45 ?rest45
         case hy45 => (intro w hSw; (try dsimp only at hSw); go_simp; (try with_reducible rfl))
         try simp only [Act.put, List.setIfInBounds_toArray, List.set_cons_zero, List.set_cons_succ]
         refine takeW (i := 20) (v := ?v46) rfl (by kernel_rfl) (by kernel_rfl) (by kernel_rfl) (fun _ _ _ h => h) (by kernel_rfl) hHeld ?hy46 ?rest46
         case hy46 => (intro w hSw; (try dsimp only at hSw); go_simp; (try with_reducible rfl))
         try simp only [Act.put, List.setIfInBounds_toArray, List.set_cons_zero, List.set_cons_succ]
         refine takeW (i := 21) (v := ?v47) rfl (by kernel_rfl) (by kernel_rfl) (by kernel_rfl) (fun _ _ _ h => h) (by kernel_rfl) hHeld ?hy47 ?rest47
         case hy47 => (intro w hSw; (try dsimp only at hSw); go_simp; (try with_reducible rfl))
         try simp only [Act.put, List.setIfInBounds_toArray, List.set_cons_zero, List.set_cons_succ]
         refine takeW (i := 22) (v := ?v48) rfl (by kernel_rfl) (by kernel_rfl) (by kernel_rfl) (fun _ _ _ h => h) (by kernel_rfl) hHeld ?hy48 ?rest48
         case hy48 => (intro w hSw; (try dsimp only at hSw); go_simp; (try with_reducible rfl))
         try simp only [Act.put, List.setIfInBounds_toArray, List.set_cons_zero, List.set_cons_succ]
         refine takeW (i := 23) (v := ?v49) rfl (by kernel_rfl) (by kernel_rfl) (by kernel_rfl) (fun _ _ _ h => h) (by kernel_rfl) hHeld ?hy49 ?rest49
         case hy49 => (intro w hSw; (try dsimp only at hSw); go_simp; (try with_reducible rfl))
         try simp only [Act.put, List.setIfInBounds_toArray, List.set_cons_zero, List.set_cons_succ]
         refine takeW (i := 24) (v := ?v50) rfl (by kernel_rfl) (by kernel_rfl) (by kernel_rfl) (fun _ _ _ h => h) (by kernel_rfl) hHeld ?hy50 ?rest50
         case hy50 => (intro w hSw; (try dsimp only at hSw); go_simp; (try with_reducible rfl))
         try simp only [Act.put, List.setIfInBounds_toArray, List.set_cons_zero, List.set_cons_succ]
         refine takeW (i := 25) (v := ?v51) rfl (by kernel_rfl) (by kernel_rfl) (by kernel_rfl) (fun _ _ _ h => h) (by kernel_rfl) hHeld ?hy51 ?rest51
         case hy51 => (intro w hSw; (try dsimp only at hSw); go_simp; (try with_reducible rfl))
         try simp only [Act.put, List.setIfInBounds_toArray, List.set_cons_zero, List.set_cons_succ]
         refine wpAnyH_done (by kernel_rfl) ?_ _
         go_wp2_with fail
         go_ret
         exact ⟨rfl, hHeld.2.2.2.2.2.2.2.2.2.2.bel⟩
        ·
         have t3' : prevP L (m + 1) < x.1.place := by omega
         have d3 : decide (x.1.place ≤ prevP L (m + 1)) = false := decide_eq_false t3
         have HGD : Hid (goodL span (prevP L (m + 1 + 1)) (L.drop (m + 1 + 1)) = g) := Lib.hid (by
          rw [t1, decide_eq_true t2', decide_eq_true t3'] at hgd
          have e9 : prevP L (m + 1 + 1) = x.1.place := by show (match L[m + 1]? with | some x => x.1.place | none => -1) = _; rw [hx]
          rw [e9]
          simpa using hgd)
         clear hgd
         refine wp_region_held_drew (S := (fun w => w.cell? ⟨wr.heap.size, 0, none⟩ = some (.int .i64 x.1.place) ∧ w.cell? ⟨wr.heap.size, 1, none⟩ = some (.int .i64 x.1.time) ∧ w.cell? ⟨wr.heap.size, 2, none⟩ = some (.bool x.1.bare) ∧ w.cell? ⟨wr.heap.size, 3, none⟩ = some (.string x.1.key) ∧ w.cell? ⟨wr.heap.size, 4, none⟩ = some (.bool x.1.gone) ∧ w.cell? ⟨wr.heap.size, 5, none⟩ = some (.string x.1.value) ∧ w.cell? ⟨wr.heap.size, 6, none⟩ = some (.slice x.2.1 x.1.heads.length x.2.2) ∧ w.cell? ⟨W.heap.size, 1, none⟩ = some (.int .i64 span) ∧ w.cell? ⟨W.heap.size, 5, none⟩ = some (.slice (some ⟨bb, off, none⟩) L.length c) ∧ w.cell? ⟨bb, off + m * 7, none⟩ = some (.int .i64 (prevP L (m + 1))) ∧ ChkS W wr bb #[.int .i64 base, .int .i64 span, .int .i64 prod, .int .i64 epoch, .int .i64 seq, .slice (some ⟨bb, off, none⟩) L.length c] w)) (by kernel_rfl) hSw (fun hHeld => ?_)
         refine takeW (i := 0) (v := ?v52) rfl (by kernel_rfl) (by kernel_rfl) (by kernel_rfl) (fun _ _ _ h => h) (by kernel_rfl) hHeld ?hy52 ?rest52
         case hy52 => (intro w hSw; (try dsimp only at hSw); go_simp; (try with_reducible rfl))
         try simp only [Act.put, List.setIfInBounds_toArray, List.set_cons_zero, List.set_cons_succ]
         refine wpAnyH_ready (rs := [1]) (by kernel_rfl) (by simp) ?_
         refine consL rfl (by kernel_rfl) (fun K hK => ?_) AllReadyH.nil
         go_simp
         (with_reducible refine (hcc _ hHeld).mono ?_)
         rintro e w2 ⟨rfl, hb2⟩
         refine hK.out _ _ (chkS_later hHeld hb2) (fun hHeld => ?_)
         clear hK K
         try simp only [Act.put, List.setIfInBounds_toArray, List.set_cons_zero, List.set_cons_succ]
         refine takeW (i := 2) (v := ?v53) rfl (by kernel_rfl) (by kernel_rfl) (by kernel_rfl) (fun _ _ _ h => h) (by kernel_rfl) hHeld ?hy53 ?rest53
         case hy53 => (intro w hSw; (try dsimp only at hSw); go_simp; (try with_reducible rfl))
         try simp only [Act.put, List.setIfInBounds_toArray, List.set_cons_zero, List.set_cons_succ]
         refine takeW (i := 3) (v := ?v54) rfl (by kernel_rfl) (by kernel_rfl) (by kernel_rfl) (fun _ _ _ h => h) (by kernel_rfl) hHeld ?hy54 ?rest54
         case hy54 => (intro w hSw; (try dsimp only at hSw); go_simp; (try with_reducible rfl))
         try simp only [Act.put, List.setIfInBounds_toArray, List.set_cons_zero, List.set_cons_succ]
         refine takeW (i := 4) (v := ?v55) rfl (by kernel_rfl) (by kernel_rfl) (by kernel_rfl) (fun _ _ _ h => h) (by kernel_rfl) hHeld ?hy55 ?rest55
         case hy55 => (intro w hSw; (try dsimp only at hSw); go_simp; (try with_reducible rfl))
         try simp only [Act.put, List.setIfInBounds_toArray, List.set_cons_zero, List.set_cons_succ]
         refine takeW (i := 5) (v := ?v56) rfl (by kernel_rfl) (by kernel_rfl) (by kernel_rfl) (fun _ _ _ h => h) (by kernel_rfl) hHeld ?hy56 ?rest56
         case hy56 => (intro w hSw; (try dsimp only at hSw); go_simp; (try with_reducible rfl))
         try simp only [Act.put, List.setIfInBounds_toArray, List.set_cons_zero, List.set_cons_succ]
         refine takeW (i := 6) (v := ?v57) rfl (by kernel_rfl) (by kernel_rfl) (by kernel_rfl) (fun _ _ _ h => h) (by kernel_rfl) hHeld ?hy57 ?rest57
         case hy57 => (intro w hSw; (try dsimp only at hSw); go_simp; (try with_reducible rfl))
         try simp only [Act.put, List.setIfInBounds_toArray, List.set_cons_zero, List.set_cons_succ]
         refine takeW (i := 7) (v := ?v58) rfl (by kernel_rfl) (by kernel_rfl) (by kernel_rfl) (fun _ _ _ h => h) (by kernel_rfl) hHeld ?hy58 ?rest58
         case hy58 => (intro w hSw; (try dsimp only at hSw); go_simp; (try with_reducible rfl))
         try simp only [Act.put, List.setIfInBounds_toArray, List.set_cons_zero, List.set_cons_succ]
         refine takeW (i := 8) (v := ?v59) rfl (by kernel_rfl) (by kernel_rfl) (by kernel_rfl) (fun _ _ _ h => h) (by kernel_rfl) hHeld ?hy59 ?rest59
         case hy59 => (intro w hSw; (try dsimp only at hSw); go_simp; (try with_reducible rfl))
         try simp only [Act.put, List.setIfInBounds_toArray, List.set_cons_zero, List.set_cons_succ]
         refine takeW (i := 9) (v := ?v60) rfl (by kernel_rfl) (by kernel_rfl) (by kernel_rfl) (fun _ _ _ h => h) (by kernel_rfl) hHeld ?hy60 ?rest60
         case hy60 => (intro w hSw; (try dsimp only at hSw); go_simp; (try with_reducible rfl))
         try simp only [Act.put, List.setIfInBounds_toArray, List.set_cons_zero, List.set_cons_succ]
         refine takeW (i := 10) (v := ?v61) rfl (by kernel_rfl) (by kernel_rfl) (by kernel_rfl) (fun _ _ _ h => h) (by kernel_rfl) hHeld ?hy61 ?rest61
         case hy61 => (intro w hSw; (try dsimp only at hSw); go_simp; (try with_reducible rfl))
         try simp only [Act.put, List.setIfInBounds_toArray, List.set_cons_zero, List.set_cons_succ]
         refine takeW (i := 11) (v := ?v62) rfl (by kernel_rfl) (by kernel_rfl) (by kernel_rfl) (fun _ _ _ h => h) (by kernel_rfl) hHeld ?hy62 ?rest62
         case hy62 => (intro w hSw; (try dsimp only at hSw); go_simp; (try with_reducible rfl))
         try simp only [Act.put, List.setIfInBounds_toArray, List.set_cons_zero, List.set_cons_succ]
         refine takeW (i := 12) (v := ?v63) rfl (by kernel_rfl) (by kernel_rfl) (by kernel_rfl) (fun _ _ _ h => h) (by kernel_rfl) hHeld ?hy63 ?rest63
         case hy63 => (intro w hSw; (try dsimp only at hSw); go_simp; (try with_reducible rfl))
         try simp only [Act.put, List.setIfInBounds_toArray, List.set_cons_zero, List.set_cons_succ]
         refine takeW (i := 13) (v := ?v64) rfl (by kernel_rfl) (by kernel_rfl) (by kernel_rfl) (fun _ _ _ h => h) (by kernel_rfl) hHeld ?hy64 ?rest64
         case hy64 => (intro w hSw; (try dsimp only at hSw); go_simp; (try with_reducible rfl))
         try simp only [Act.put, List.setIfInBounds_toArray, List.set_cons_zero, List.set_cons_succ]
         refine takeW (i := 14) (v := ?v65) rfl (by kernel_rfl) (by kernel_rfl) (by kernel_rfl) (fun _ _ _ h => h) (by kernel_rfl) hHeld ?hy65 ?rest65
         case hy65 => (intro w hSw; (try dsimp only at hSw); go_simp; (try with_reducible rfl))
         try simp only [Act.put, List.setIfInBounds_toArray, List.set_cons_zero, List.set_cons_succ]
         refine takeW (i := 15) (v := ?v66) rfl (by kernel_rfl) (by kernel_rfl) (by kernel_rfl) (fun _ _ _ h => h) (by kernel_rfl) hHeld ?hy66 ?rest66
         case hy66 => (intro w hSw; (try dsimp only at hSw); go_simp; (try with_reducible rfl))
         try simp only [Act.put, List.setIfInBounds_toArray, List.set_cons_zero, List.set_cons_succ]
         refine takeW (i := 16) (v := ?v67) rfl (by kernel_rfl) (by kernel_rfl) (by kernel_rfl) (fun _ _ _ h => h) (by kernel_rfl) hHeld ?hy67 ?rest67
         case hy67 => (intro w hSw; (try dsimp only at hSw); go_simp; (try with_reducible rfl))
         try simp only [Act.put, List.setIfInBounds_toArray, List.set_cons_zero, List.set_cons_succ]
         refine takeW (i := 17) (v := ?v68) rfl (by kernel_rfl) (by kernel_rfl) (by kernel_rfl) (fun _ _ _ h => h) (by kernel_rfl) hHeld ?hy68 ?rest68
         case hy68 => (intro w hSw; (try dsimp only at hSw); go_simp; (try with_reducible rfl))
         try simp only [Act.put, List.setIfInBounds_toArray, List.set_cons_zero, List.set_cons_succ]
         refine takeW (i := 18) (v := ?v69) rfl (by kernel_rfl) (by kernel_rfl) (by kernel_rfl) (fun _ _ _ h => h) (by kernel_rfl) hHeld ?hy69 ?rest69
         case hy69 => (intro w hSw; (try dsimp only at hSw); go_simp; (try with_reducible rfl))
         try simp only [Act.put, List.setIfInBounds_toArray, List.set_cons_zero, List.set_cons_succ]
         refine takeW (i := 19) (v := ?v70) rfl (by kernel_rfl) (by kernel_rfl) (by kernel_rfl) (fun _ _ _ h => h) (by kernel_rfl) hHeld ?hy70 ?rest70
         case hy70 => (intro w hSw; (try dsimp only at hSw); go_simp; (try with_reducible rfl))
         try simp only [Act.put, List.setIfInBounds_toArray, List.set_cons_zero, List.set_cons_succ]
         refine takeW (i := 20) (v := ?v71) rfl (by kernel_rfl) (by kernel_rfl) (by kernel_rfl) (fun _ _ _ h => h) (by kernel_rfl) hHeld ?hy71 ?rest71
         case hy71 => (intro w hSw; (try dsimp only at hSw); go_simp; (try with_reducible rfl))
         try simp only [Act.put, List.setIfInBounds_toArray, List.set_cons_zero, List.set_cons_succ]
         refine takeW (i := 21) (v := ?v72) rfl (by kernel_rfl) (by kernel_rfl) (by kernel_rfl) (fun _ _ _ h => h) (by kernel_rfl) hHeld ?hy72 ?rest72
         case hy72 => (intro w hSw; (try dsimp only at hSw); go_simp; (try with_reducible rfl))
         try simp only [Act.put, List.setIfInBounds_toArray, List.set_cons_zero, List.set_cons_succ]
         refine takeW (i := 22) (v := ?v73) rfl (by kernel_rfl) (by kernel_rfl) (by kernel_rfl) (fun _ _ _ h => h) (by kernel_rfl) hHeld ?hy73 ?rest73
         case hy73 => (intro w hSw; (try dsimp only at hSw); go_simp; (try with_reducible rfl))
         try simp only [Act.put, List.setIfInBounds_toArray, List.set_cons_zero, List.set_cons_succ]
         refine takeW (i := 23) (v := ?v74) rfl (by kernel_rfl) (by kernel_rfl) (by kernel_rfl) (fun _ _ _ h => h) (by kernel_rfl) hHeld ?hy74 ?rest74
         case hy74 => (intro w hSw; (try dsimp only at hSw); go_simp; (try with_reducible rfl))
         try simp only [Act.put, List.setIfInBounds_toArray, List.set_cons_zero, List.set_cons_succ]
         refine takeW (i := 24) (v := ?v75) rfl (by kernel_rfl) (by kernel_rfl) (by kernel_rfl) (fun _ _ _ h => h) (by kernel_rfl) hHeld ?hy75 ?rest75
         case hy75 => (intro w hSw; (try dsimp only at hSw); go_simp; (try with_reducible rfl))
         try simp only [Act.put, List.setIfInBounds_toArray, List.set_cons_zero, List.set_cons_succ]
         refine takeW (i := 25) (v := ?v76) rfl (by kernel_rfl) (by kernel_rfl) (by kernel_rfl) (fun _ _ _ h => h) (by kernel_rfl) hHeld ?hy76 ?rest76
         case hy76 => (intro w hSw; (try dsimp only at hSw); go_simp; (try with_reducible rfl))
         try simp only [Act.put, List.setIfInBounds_toArray, List.set_cons_zero, List.set_cons_succ]
         refine wpAnyH_done (by kernel_rfl) ?_ _
         go_wp2_with fail
         go_roundw
         case rel => exact ⟨m + 1 + 1, by go_num, hk, HGD.out, hHeld.2.2.2.2.2.2.2.2.2.2.bel, hHeld.2.2.2.2.2.2.2.2.2.2.box⟩
         case measure => simp [intOf]; omega
     ·
      have e1 : recE x.1 = 1 := by unfold recE; rw [if_neg t1]
      rw [e1] at hcc
      have hgf : g = false := by rw [← hgd]; simp [t1]
      have hr : res = 1 := by rw [← HR.out]; unfold batE batB; rw [HG.out, hgf]; simp
      subst hr
      clear hgd hqk
      refine wp_region_held_drew (S := (fun w => w.cell? ⟨wr.heap.size, 0, none⟩ = some (.int .i64 x.1.place) ∧ w.cell? ⟨wr.heap.size, 1, none⟩ = some (.int .i64 x.1.time) ∧ w.cell? ⟨wr.heap.size, 2, none⟩ = some (.bool x.1.bare) ∧ w.cell? ⟨wr.heap.size, 3, none⟩ = some (.string x.1.key) ∧ w.cell? ⟨wr.heap.size, 4, none⟩ = some (.bool x.1.gone) ∧ w.cell? ⟨wr.heap.size, 5, none⟩ = some (.string x.1.value) ∧ w.cell? ⟨wr.heap.size, 6, none⟩ = some (.slice x.2.1 x.1.heads.length x.2.2) ∧ w.cell? ⟨W.heap.size, 1, none⟩ = some (.int .i64 span) ∧ w.cell? ⟨W.heap.size, 5, none⟩ = some (.slice (some ⟨bb, off, none⟩) L.length c) ∧ w.cell? ⟨bb, qo, none⟩ = some (.int .i64 qv) ∧ ChkS W wr bb #[.int .i64 base, .int .i64 span, .int .i64 prod, .int .i64 epoch, .int .i64 seq, .slice (some ⟨bb, off, none⟩) L.length c] w)) (by kernel_rfl) hSw (fun hHeld => ?_)
      refine takeW (i := 0) (v := ?v77) rfl (by kernel_rfl) (by kernel_rfl) (by kernel_rfl) (fun _ _ _ h => h) (by kernel_rfl) hHeld ?hy77 ?rest77
      case hy77 => (intro w hSw; (try dsimp only at hSw); go_simp; (try with_reducible rfl))
      try simp only [Act.put, List.setIfInBounds_toArray, List.set_cons_zero, List.set_cons_succ]
      refine wpAnyH_ready (rs := [1]) (by kernel_rfl) (by simp) ?_
      refine consL rfl (by kernel_rfl) (fun K hK => ?_) AllReadyH.nil
      go_simp
      (with_reducible refine (hcc _ hHeld).mono ?_)
      rintro e w2 ⟨rfl, hb2⟩
      refine hK.out _ _ (chkS_later hHeld hb2) (fun hHeld => ?_)
      clear hK K
      try simp only [Act.put, List.setIfInBounds_toArray, List.set_cons_zero, List.set_cons_succ]
      refine takeW (i := 2) (v := ?v78) rfl (by kernel_rfl) (by kernel_rfl) (by kernel_rfl) (fun _ _ _ h => h) (by kernel_rfl) hHeld ?hy78 ?rest78
      case hy78 => (intro w hSw; (try dsimp only at hSw); go_simp; (try with_reducible rfl))
      try simp only [Act.put, List.setIfInBounds_toArray, List.set_cons_zero, List.set_cons_succ]
      refine takeW (i := 3) (v := ?v79) rfl (by kernel_rfl) (by kernel_rfl) (by kernel_rfl) (fun _ _ _ h => h) (by kernel_rfl) hHeld ?hy79 ?rest79
      case hy79 => (intro w hSw; (try dsimp only at hSw); go_simp; (try with_reducible rfl))
      try simp only [Act.put, List.setIfInBounds_toArray, List.set_cons_zero, List.set_cons_succ]
      refine takeU (i := 4) rfl (by kernel_rfl) (by kernel_rfl) (by kernel_rfl) (fun _ _ _ h => h) (by kernel_rfl) hHeld ?_
      try simp only [Act.put, List.setIfInBounds_toArray, List.set_cons_zero, List.set_cons_succ]
      refine takeU (i := 5) rfl (by kernel_rfl) (by kernel_rfl) (by kernel_rfl) (fun _ _ _ h => h) (by kernel_rfl) hHeld ?_
      try simp only [Act.put, List.setIfInBounds_toArray, List.set_cons_zero, List.set_cons_succ]
      refine takeU (i := 6) rfl (by kernel_rfl) (by kernel_rfl) (by kernel_rfl) (fun _ _ _ h => h) (by kernel_rfl) hHeld ?_
      try simp only [Act.put, List.setIfInBounds_toArray, List.set_cons_zero, List.set_cons_succ]
      refine takeU (i := 7) rfl (by kernel_rfl) (by kernel_rfl) (by kernel_rfl) (fun _ _ _ h => h) (by kernel_rfl) hHeld ?_
      try simp only [Act.put, List.setIfInBounds_toArray, List.set_cons_zero, List.set_cons_succ]
      refine takeU (i := 8) rfl (by kernel_rfl) (by kernel_rfl) (by kernel_rfl) (fun _ _ _ h => h) (by kernel_rfl) hHeld ?_
      try simp only [Act.put, List.setIfInBounds_toArray, List.set_cons_zero, List.set_cons_succ]
      refine takeW (i := 9) (v := ?v80) rfl (by kernel_rfl) (by kernel_rfl) (by kernel_rfl) (fun _ _ _ h => h) (by kernel_rfl) hHeld ?hy80 ?rest80
      case hy80 => (intro w hSw; (try dsimp only at hSw); go_simp; (try with_reducible rfl))
      try simp only [Act.put, List.setIfInBounds_toArray, List.set_cons_zero, List.set_cons_succ]
      refine takeW (i := 10) (v := ?v81) rfl (by kernel_rfl) (by kernel_rfl) (by kernel_rfl) (fun _ _ _ h => h) (by kernel_rfl) hHeld ?hy81 ?rest81
      case hy81 => (intro w hSw; (try dsimp only at hSw); go_simp; (try with_reducible rfl))
      try simp only [Act.put, List.setIfInBounds_toArray, List.set_cons_zero, List.set_cons_succ]
      refine takeU (i := 11) rfl (by kernel_rfl) (by kernel_rfl) (by kernel_rfl) (fun _ _ _ h => h) (by kernel_rfl) hHeld ?_
      try simp only [Act.put, List.setIfInBounds_toArray, List.set_cons_zero, List.set_cons_succ]
      refine takeU (i := 12) rfl (by kernel_rfl) (by kernel_rfl) (by kernel_rfl) (fun _ _ _ h => h) (by kernel_rfl) hHeld ?_
      try simp only [Act.put, List.setIfInBounds_toArray, List.set_cons_zero, List.set_cons_succ]
      refine takeU (i := 13) rfl (by kernel_rfl) (by kernel_rfl) (by kernel_rfl) (fun _ _ _ h => h) (by kernel_rfl) hHeld ?_
      try simp only [Act.put, List.setIfInBounds_toArray, List.set_cons_zero, List.set_cons_succ]
      refine takeU (i := 14) rfl (by kernel_rfl) (by kernel_rfl) (by kernel_rfl) (fun _ _ _ h => h) (by kernel_rfl) hHeld ?_
      try simp only [Act.put, List.setIfInBounds_toArray, List.set_cons_zero, List.set_cons_succ]
      refine takeU (i := 15) rfl (by kernel_rfl) (by kernel_rfl) (by kernel_rfl) (fun _ _ _ h => h) (by kernel_rfl) hHeld ?_
      try simp only [Act.put, List.setIfInBounds_toArray, List.set_cons_zero, List.set_cons_succ]
      refine takeU (i := 16) rfl (by kernel_rfl) (by kernel_rfl) (by kernel_rfl) (fun _ _ _ h => h) (by kernel_rfl) hHeld ?_
      try simp only [Act.put, List.setIfInBounds_toArray, List.set_cons_zero, List.set_cons_succ]
      refine takeU (i := 17) rfl (by kernel_rfl) (by kernel_rfl) (by kernel_rfl) (fun _ _ _ h => h) (by kernel_rfl) hHeld ?_
      try simp only [Act.put, List.setIfInBounds_toArray, List.set_cons_zero, List.set_cons_succ]
      refine takeU (i := 18) rfl (by kernel_rfl) (by kernel_rfl) (by kernel_rfl) (fun _ _ _ h => h) (by kernel_rfl) hHeld ?_
      try simp only [Act.put, List.setIfInBounds_toArray, List.set_cons_zero, List.set_cons_succ]
      refine takeU (i := 19) rfl (by kernel_rfl) (by kernel_rfl) (by kernel_rfl) (fun _ _ _ h => h) (by kernel_rfl) hHeld ?_
      try simp only [Act.put, List.setIfInBounds_toArray, List.set_cons_zero, List.set_cons_succ]
      refine takeU (i := 20) rfl (by kernel_rfl) (by kernel_rfl) (by kernel_rfl) (fun _ _ _ h => h) (by kernel_rfl) hHeld ?_
      try simp only [Act.put, List.setIfInBounds_toArray, List.set_cons_zero, List.set_cons_succ]
      refine takeU (i := 21) rfl (by kernel_rfl) (by kernel_rfl) (by kernel_rfl) (fun _ _ _ h => h) (by kernel_rfl) hHeld ?_
      try simp only [Act.put, List.setIfInBounds_toArray, List.set_cons_zero, List.set_cons_succ]
      refine takeU (i := 22) rfl (by kernel_rfl) (by kernel_rfl) (by kernel_rfl) (fun _ _ _ h => h) (by kernel_rfl) hHeld ?_
      try simp only [Act.put, List.setIfInBounds_toArray, List.set_cons_zero, List.set_cons_succ]
      refine takeU (i := 23) rfl (by kernel_rfl) (by kernel_rfl) (by kernel_rfl) (fun _ _ _ h => h) (by kernel_rfl) hHeld ?_
      try simp only [Act.put, List.setIfInBounds_toArray, List.set_cons_zero, List.set_cons_succ]
      refine takeU (i := 24) rfl (by kernel_rfl) (by kernel_rfl) (by kernel_rfl) (fun _ _ _ h => h) (by kernel_rfl) hHeld ?_
      try simp only [Act.put, List.setIfInBounds_toArray, List.set_cons_zero, List.set_cons_succ]
      refine takeW (i := 25) (v := ?v82) rfl (by kernel_rfl) (by kernel_rfl) (by kernel_rfl) (fun _ _ _ h => h) (by kernel_rfl) hHeld ?hy82 ?rest82
      case hy82 => (intro w hSw; (try dsimp only at hSw); go_simp; (try with_reducible rfl))
      try simp only [Act.put, List.setIfInBounds_toArray, List.set_cons_zero, List.set_cons_succ]
      refine wpAnyH_done (by kernel_rfl) ?_ _
      go_wp2_with fail
      go_ret
      exact ⟨rfl, hHeld.2.2.2.2.2.2.2.2.2.2.bel⟩
    ·
     have hke : k = L.length := by omega
     subst hke
     have hgt : g = true := by rw [← hgd, List.drop_length]; rfl
     subst hgt
     have hgL := HG.out
     rw [goodL_eq] at hgL
     simp only [Bool.and_eq_true, List.all_eq_true] at hgL
     have cb := rbody_c ⟨base, span, prod, epoch, seq⟩ A c L wr (h.below hbw) (by omega) HN.out (fun y hy => hgL.2 y hy)
     unfold bnC at cb
     have y0 := (hbb.cell 0).trans rfl
     have y1 := (hbb.cell 1).trans rfl
     have y2 := (hbb.cell 2).trans rfl
     have y3 := (hbb.cell 3).trans rfl
     have y4 := (hbb.cell 4).trans rfl
     have y5 := (hbb.cell 5).trans rfl
     simp only [List.getElem?_toArray, List.getElem?_cons_zero, List.getElem?_cons_succ] at y0 y1 y2 y3 y4 y5
     have hsz : (⟨(bodyL ⟨base, span, prod, epoch, seq⟩ L).toArray⟩ : ByteArray).size = (bodyL ⟨base, span, prod, epoch, seq⟩ L).length := by show (bodyL ⟨base, span, prod, epoch, seq⟩ L).toArray.size = _; simp
     have HBW := Lib.hid hbw
     have hll : L.length ≤ 50 := by omega
     clear hgd hgL hbb hbw
     by_cases q6 : (bodyL ⟨base, span, prod, epoch, seq⟩ L).length ≤ 60000
     ·
      have hr : res = 0 := by rw [← HR.out]; unfold batE batB; rw [HN.out, HG.out, decide_eq_true hll, decide_eq_true q6]; rfl
      subst hr
      have q7 : ((⟨(bodyL ⟨base, span, prod, epoch, seq⟩ L).toArray⟩ : ByteArray).size : Int) ≤ 60000 := by rw [hsz]; omega
      clear hsz
      generalize (⟨(bodyL ⟨base, span, prod, epoch, seq⟩ L).toArray⟩ : ByteArray) = bd at *
      go_wp2_with fail
      (with_reducible refine cb.mono ?_)
      rintro e w2 ⟨rfl, hb2⟩
      have HB2 := Lib.hid (HBW.out.trans (hb2.mono HBW.out.size))
      clear hb2
      go_wp2
      go_ret
      exact ⟨rfl, HB2.out⟩
     ·
      have hr : res = 1 := by rw [← HR.out]; unfold batE batB; rw [decide_eq_false q6]; simp
      subst hr
      have q7 : (60000 : Int) < ((⟨(bodyL ⟨base, span, prod, epoch, seq⟩ L).toArray⟩ : ByteArray).size : Int) := by rw [hsz]; omega
      clear hsz
      generalize (⟨(bodyL ⟨base, span, prod, epoch, seq⟩ L).toArray⟩ : ByteArray) = bd at *
      go_wp2_with fail
      (with_reducible refine cb.mono ?_)
      rintro e w2 ⟨rfl, hb2⟩
      have HB2 := Lib.hid (HBW.out.trans (hb2.mono HBW.out.size))
      clear hb2
      go_wp2
      go_ret
      exact ⟨rfl, HB2.out⟩
end Go.Proofs.YtjnphajkoopkgaaGreatDoor
