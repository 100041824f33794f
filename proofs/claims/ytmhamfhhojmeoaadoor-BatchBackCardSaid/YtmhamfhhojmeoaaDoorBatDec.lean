/- The program's Decode of a batch. Condition: the table of sums. -/
import Derived.Test.YtmhamfhhojmeoaaDoorBatUn2
namespace Go.Proofs.YtmhamfhhojmeoaaDoor
open Go.RowKit
set_option linter.unusedVariables false
def zeroN : BN := ⟨0, 0, 0, 0, 0⟩
/-- What Decode hands back. -/
def decG (s : ByteArray) (p : Int) : BN × List Rec × Int × Int :=
  if (bodyG s p).2.2 ≠ 0 then (zeroN, [], 0, (bodyG s p).2.2) else
  if unpB (bodyG s p).1 = true then (nbn (nrd (bodyG s p).1 6).1, (recN (bodyG s p).1).1, (bodyG s p).2.1, 0) else (zeroN, [], 0, 3)
def GotBt (W : World) (b : BN) (R : List Rec) (q e : Int) (en : Ending) (w' : World) : Prop :=
  ∃ (L : List RX) (A : Option Addr) (c : Nat), L.map (·.1) = R ∧ en = .returned (.tuple #[.agg (bnC b (.slice A L.length c)), .int .i64 q, .int .i64 e]) ∧ RowR w' W.heap.size (.slice A L.length c) L ∧ Below W.heap.size W w'
theorem GotBt.zero {W w' : World} {e : Int} (h : Below W.heap.size W w') : GotBt W zeroN [] 0 e (.returned (.tuple #[.agg #[.int .i64 0, .int .i64 0, .int .i64 0, .int .i64 0, .int .i64 0, .slice none 0 0], .int .i64 0, .int .i64 e])) w' :=
  ⟨[], none, 0, rfl, rfl, RowR.nil _ _, h⟩
theorem pdc_result {w : World} (g : Nat) {v0 v1 v2 v3 v4 v5 x y : Value} (h : Box w g 24 #[v0, v1, v2, v3, v4, v5]) (tmps : Array Value) (ht : (tmps[4]?).getD undef = .pointer (some ⟨g, 0, none⟩)) (h5 : (tmps[5]?).getD undef = x) (h6 : (tmps[6]?).getD undef = y) :
    (results Tryd.f17 tmps).run Tryd.prog w = .ok (.tuple #[.agg #[v0, v1, v2, v3, v4, v5], x, y]) w := by
  have c0 := (h.cell 0).trans (show _ = some v0 from rfl)
  have c1 := (h.cell 1).trans (show _ = some v1 from rfl)
  have c2 := (h.cell 2).trans (show _ = some v2 from rfl)
  have c3 := (h.cell 3).trans (show _ = some v3 from rfl)
  have c4 := (h.cell 4).trans (show _ = some v4 from rfl)
  have c5 := (h.cell 5).trans (show _ = some v5 from rfl)
  simp [results, Tryd.results17, go_sem, ht, h5, h6, c0, c1, c2, c3, c4, c5]
theorem bodyG_size (s : ByteArray) (p : Int) : (bodyG s p).1.size ≤ s.size := by
  unfold bodyG
  repeat' split
  all_goals first | exact Nat.zero_le _ | (rw [ByteArray.size_extract]; omega)
/-- A row through stores into one block of another type. -/
theorem RowR.bset {w : World} {base g t : Nat} {v : Value} {L : List RX} {z0 z1 z2 z3 z4 z5 : Value} (h : RowR w base v L) (hb : Box w g t #[z0, z1, z2, z3, z4, z5]) (h1 : t ≠ 49) (h2 : t ≠ 51) (v0 v1 v2 v3 v4 v5 : Value) : RowR (bset w g v0 v1 v2 v3 v4 v5) base v L :=
  ⟨own_off h.row (bset_off w g v0 v1 v2 v3 v4 v5) (fun k e => own_ne h.row hb h1 k e), fun x hx => own_off (h.heads x hx) (bset_off w g v0 v1 v2 v3 v4 v5) (fun k e => own_ne (h.heads x hx) hb h2 k e)⟩
theorem RowR.base {w : World} {base base' : Nat} {v : Value} {L : List RX} (h : RowR w base v L) (hb : base' ≤ base) : RowR w base' v L := ⟨own_base h.row hb, fun x hx => own_base (h.heads x hx) hb⟩
set_option maxHeartbeats 8000000 in
set_option maxRecDepth 100000 in
theorem pdecode5_c (s : ByteArray) (p : Int) (W : World) (hs : s.size ≤ 140737488351232) (hT : Tab W) :
    Calls Tryd.prog 17 #[.string s, .int .i64 p] W (GotBt W (decG s p).1 (decG s p).2.1 (decG s p).2.2.1 (decG s p).2.2.2) := by
  have hal : Below W.heap.size W (W.alloc (.cells #[.int .i64 0, .int .i64 0, .int .i64 0, .int .i64 0, .int .i64 0, .slice none 0 0] 24)) := (Below.refl _ W).alloc (Nat.le_refl _) _
  have hbx := Box.new W 24 #[.int .i64 0, .int .i64 0, .int .i64 0, .int .i64 0, .int .i64 0, .slice none 0 0]
  have cb := pbodyAt_c s p (W.alloc (.cells #[.int .i64 0, .int .i64 0, .int .i64 0, .int .i64 0, .int .i64 0, .slice none 0 0] 24)) hs (hT.below hal)
  have hbs := bodyG_size s p
  unfold bodyV at cb
  have HA := Lib.hid (And.intro hal hbx)
  clear hal hbx
  unfold decG
  generalize (bodyG s p).1 = t at *
  generalize (bodyG s p).2.1 = q at *
  generalize (bodyG s p).2.2 = e at *
  by_cases he : e = 0
  · subst he
    rw [if_neg (by simp)]
    have cu := fun w => unpack_c t w (by omega)
    cases hu : unpB t with
    | false =>
      rw [if_neg (by decide)]
      rw [hu] at cu
      clear hu
      go_enter Tryd.func17, Tryd.ntmps17
      go_wp2_with fail
      (with_reducible refine cb.mono ?_)
      rintro en w1 ⟨rfl, hb1⟩
      have HA1 := Lib.hid (And.intro (HA.out.1.trans (hb1.mono HA.out.1.size)) (HA.out.2.later hb1))
      clear hb1 cb HA
      go_wp2_with fail
      (with_reducible refine (cu _).mono ?_)
      rintro en w2 ⟨b', A, n, c, rfl, hok, hb2⟩
      have HA2 := Lib.hid (And.intro (HA1.out.1.trans (hb2.mono HA1.out.1.size)) (HA1.out.2.later hb2))
      clear hb2 cu HA1 hok
      obtain ⟨base, span, prod, epoch, seq⟩ := b'
      unfold bnC
      simp only
      have HA3 := Lib.hid (And.intro (HA2.out.1.alloc HA2.out.1.size (.cells #[.int .i64 base, .int .i64 span, .int .i64 prod, .int .i64 epoch, .int .i64 seq, .slice A n c] 24)) (HA2.out.2.alloc (.cells #[.int .i64 base, .int .i64 span, .int .i64 prod, .int .i64 epoch, .int .i64 seq, .slice A n c] 24)))
      obtain ⟨y0, y1, y2, y3, y4, y5, f0, f1, f2, f3, f4, f5⟩ := box_six HA3.out.2
      go_wp2_with fail
      refine bodyPost_ret (v := .tuple #[.agg #[.int .i64 0, .int .i64 0, .int .i64 0, .int .i64 0, .int .i64 0, .slice none 0 0], .int .i64 0, .int .i64 3]) ?_ rfl ?_
      · exact pdc_result W.heap.size (bset_box HA3.out.2 _ _ _ _ _ _) _ rfl rfl rfl
      · exact GotBt.zero (below_off HA3.out.1 (bset_off _ _ _ _ _ _ _ _) (Nat.le_refl _))
    | true =>
      rw [if_pos rfl]
      rw [hu] at cu
      clear hu
      go_enter Tryd.func17, Tryd.ntmps17
      go_wp2_with fail
      (with_reducible refine cb.mono ?_)
      rintro en w1 ⟨rfl, hb1⟩
      have HA1 := Lib.hid (And.intro (HA.out.1.trans (hb1.mono HA.out.1.size)) (HA.out.2.later hb1))
      clear hb1 cb HA
      go_wp2_with fail
      (with_reducible refine (cu _).mono ?_)
      rintro en w2 ⟨b', A, n, c, rfl, hok, hb2⟩
      obtain ⟨rfl, L, hLR, hnL, hrow⟩ := hok rfl
      subst hnL
      have HA2 := Lib.hid (And.intro (HA1.out.1.trans (hb2.mono HA1.out.1.size)) (HA1.out.2.later hb2))
      have HR2 := Lib.hid (hrow.base HA1.out.1.size)
      clear hb2 cu HA1 hok hrow
      have HLR := Lib.hid hLR
      clear hLR
      generalize nbn (nrd t 6).1 = bb at *
      obtain ⟨base, span, prod, epoch, seq⟩ := bb
      unfold bnC
      simp only
      have hal2 : Below w2.heap.size w2 (w2.alloc (.cells #[.int .i64 base, .int .i64 span, .int .i64 prod, .int .i64 epoch, .int .i64 seq, .slice A L.length c] 24)) := (Below.refl _ _).alloc (Nat.le_refl _) _
      have HA3 := Lib.hid (And.intro (HA2.out.1.alloc HA2.out.1.size (.cells #[.int .i64 base, .int .i64 span, .int .i64 prod, .int .i64 epoch, .int .i64 seq, .slice A L.length c] 24)) (HA2.out.2.alloc (.cells #[.int .i64 base, .int .i64 span, .int .i64 prod, .int .i64 epoch, .int .i64 seq, .slice A L.length c] 24)))
      have HR3 := Lib.hid (HR2.out.later hal2)
      clear hal2
      obtain ⟨y0, y1, y2, y3, y4, y5, f0, f1, f2, f3, f4, f5⟩ := box_six HA3.out.2
      go_wp2_with fail
      refine bodyPost_ret (v := .tuple #[.agg #[.int .i64 base, .int .i64 span, .int .i64 prod, .int .i64 epoch, .int .i64 seq, .slice A L.length c], .int .i64 q, .int .i64 0]) ?_ rfl ?_
      · exact pdc_result W.heap.size (bset_box HA3.out.2 _ _ _ _ _ _) _ rfl rfl rfl
      · exact ⟨L, A, c, HLR.out, rfl, HR3.out.bset HA3.out.2 (by decide) (by decide) _ _ _ _ _ _, below_off HA3.out.1 (bset_off _ _ _ _ _ _ _ _) (Nat.le_refl _)⟩
  · rw [if_pos he]
    have he' : (e == 0) = false := by rw [beq_eq_false_iff_ne]; exact he
    have he2 : (e != 0) = true := by simpa using he
    go_enter Tryd.func17, Tryd.ntmps17
    go_wp2_with fail
    (with_reducible refine cb.mono ?_)
    rintro en w1 ⟨rfl, hb1⟩
    have HA1 := Lib.hid (And.intro (HA.out.1.trans (hb1.mono HA.out.1.size)) (HA.out.2.later hb1))
    clear hb1 cb HA
    obtain ⟨y0, y1, y2, y3, y4, y5, f0, f1, f2, f3, f4, f5⟩ := box_six HA1.out.2
    go_wp2_with fail
    refine bodyPost_ret (v := .tuple #[.agg #[.int .i64 0, .int .i64 0, .int .i64 0, .int .i64 0, .int .i64 0, .slice none 0 0], .int .i64 0, .int .i64 e]) ?_ rfl ?_
    · exact pdc_result W.heap.size (bset_box HA1.out.2 _ _ _ _ _ _) _ rfl rfl rfl
    · exact GotBt.zero (below_off HA1.out.1 (bset_off _ _ _ _ _ _ _ _) (Nat.le_refl _))
end Go.Proofs.YtmhamfhhojmeoaaDoor
