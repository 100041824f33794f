/- The program's reader: headers, record; Decode. -/
import Derived.Test.YtmhamfhhojmeoaaDoorRecRead
import Derived.Laws.AppendOwn
namespace Go.Proofs.YtmhamfhhojmeoaaDoor
open Go.RowKit
set_option linter.unusedVariables false
/-- The cells of a list of headers. -/
def headCells (hs : List Hd) : List Value := hs.flatMap fun h => [.string h.1, .string h.2]
theorem headCells_len (hs : List Hd) : (headCells hs).length = hs.length * 2 := by
  induction hs with
  | nil => rfl
  | cons h hs ih => simp [headCells] at ih ⊢; omega
theorem headCells_snoc (hs : List Hd) (h : Hd) : headCells (hs ++ [h]) = headCells hs ++ [.string h.1, .string h.2] := by simp [headCells]
theorem headCells_at {hs : List Hd} {j : Nat} {h : Hd} (hj : hs[j]? = some h) : (headCells hs)[j * 2]? = some (.string h.1) ∧ (headCells hs)[j * 2 + 1]? = some (.string h.2) := by
  induction hs generalizing j with
  | nil => simp at hj
  | cons x hs ih =>
    cases j with
    | zero =>
      have : x = h := by simpa using hj
      subst this
      exact ⟨rfl, rfl⟩
    | succ j =>
      have := ih (j := j) (by simpa using hj)
      have e : headCells (x :: hs) = [.string x.1, .string x.2] ++ headCells hs := rfl
      rw [e, show (j + 1) * 2 = (j * 2) + 2 by omega, show j * 2 + 2 + 1 = (j * 2 + 1) + 2 by omega]
      exact this
theorem hin_of_own {w : World} {base n c : Nat} {A : Option Addr} {hs : List Hd} (h : w.ownsRow base 51 2 (.slice A n c) hs.length (headCells hs)) : HIn w A hs := fun hp => by
  rcases h.2 with ⟨_, h0⟩ | ⟨g, cap, cur, hv, hb, hg, hrest⟩
  · omega
  · injection hv with h1 h2 h3
    subst h1
    refine ⟨g, 0, rfl, lt_of_there hg, fun j x hx => ?_⟩
    obtain ⟨a1, a2⟩ := headCells_at hx
    have c1 := World.ownsRow.cells h (g := g) rfl _ _ a1
    have c2 := World.ownsRow.cells h (g := g) rfl _ _ a2
    have e1 : ∀ i, (⟨g, 0, none⟩ : Addr).add i = ⟨g, i, none⟩ := fun i => by unfold Addr.add; split <;> simp_all
    rw [e1] at c1 c2
    simp only [Nat.zero_add]
    exact ⟨c1, c2⟩
theorem Off.to_grown {w w' : World} {b : Nat} (h : Off (· = b) w w') : w.grownBy w' (some b) := ⟨h.os, h.tape, h.output, h.size, fun k hk hne => h.block k hk (fun e => hne (by rw [e]))⟩
theorem infoHeader : (Tryd.prog.info? 51).map (fun i => (i.zero, i.size, i.bytes)) = some (some (.agg #[.string ⟨#[]⟩, .string ⟨#[]⟩]), 2, 32) := by kernel_rfl
/-- Half way: hs have been read, k of n. -/
structure HeadsAt (W : World) (b : Nat) (s : ByteArray) (n : Nat) (q0 e0 : Int) (k : Nat) (v : Value) (wr : World) : Prop where
  ex : ∃ (hs : List Hd) (q e : Int), hs.length = k ∧ k ≤ n ∧ wr.ownsRow W.heap.size 51 2 v hs.length (headCells hs) ∧ Box wr b 101 (rdC s q e) ∧ Off (· = b) W wr ∧
    rdH s n q0 e0 = (hs ++ (rdH s (n - k) q e).1, (rdH s (n - k) q e).2)
def GotHeads (W : World) (b : Nat) (s : ByteArray) (hs : List Hd) (q e : Int) (en : Ending) (w' : World) : Prop :=
  ∃ A c, en = .returned (.slice A hs.length c) ∧ w'.ownsRow W.heap.size 51 2 (.slice A hs.length c) hs.length (headCells hs) ∧ Box w' b 101 (rdC s q e) ∧ Off (· = b) W w'
theorem own_not {W wr : World} {b t size n : Nat} {v : Value} {xs : List Value} (h : wr.ownsRow W.heap.size t size v n xs) (hb : b < W.heap.size) : v.ownBlock = none ∨ v.ownBlock ≠ some b :=
  .inr fun e => by have := (h.lt b e).1; omega
theorem Box.kept_by {w w' : World} {b : Nat} {t : TypeId} {cs : Array Value} {row : Option Nat} (h : Box w b t cs) (hg : w.grownBy w' row) (hr : row = none ∨ row ≠ some b) : Box w' b t cs :=
  (hg.block b h.lt (fun e => by rcases hr with h1 | h1 <;> simp_all)).trans h
theorem own_slice {w : World} {base t size n : Nat} {v : Value} {xs : List Value} (h : w.ownsRow base t size v n xs) : ∃ A c, v = .slice A n c := by
  rcases h.2 with ⟨hv, h0⟩ | ⟨g, cap, cur, hv, _⟩
  · exact ⟨none, 0, by rw [hv, h0]⟩
  · exact ⟨_, _, hv⟩
theorem two_new (w : World) (t : TypeId) (x y : Value) : ∀ j u, [x, y][j]? = some u → (w.alloc (.cells #[x, y] t)).cell? ((⟨w.heap.size, 0, none⟩ : Addr).add j) = some u := by
  intro j u hj
  have e1 : ∀ i, (⟨w.heap.size, 0, none⟩ : Addr).add i = ⟨w.heap.size, i, none⟩ := fun i => by unfold Addr.add; split <;> simp_all
  rw [e1, (Box.new w t #[x, y]).cell]
  simpa using hj
theorem HeadsAt.step {W w3 : World} {b : Nat} {s : ByteArray} {n k : Nat} {q0 e0 q q2 e2 : Int} {hs0 : List Hd} {x1 x2 : ByteArray} {v' : Value} (hl : hs0.length = k) (hk : k < n) (hbox : Box w3 b 101 (rdC s q2 e2)) (hown : w3.ownsRow W.heap.size 51 2 v' (hs0.length + 1) (headCells hs0 ++ [.string x1, .string x2]))
    (ho2 : Off (· = b) W w3) (hall : rdH s n q0 e0 = (hs0 ++ (rdH s (n - k) q 0).1, (rdH s (n - k) q 0).2)) (hn : rdH s (n - k) q 0 = ((x1, x2) :: (rdH s (n - (k + 1)) q2 e2).1, (rdH s (n - (k + 1)) q2 e2).2)) : HeadsAt W b s n q0 e0 (k + 1) v' w3 :=
  ⟨hs0 ++ [(x1, x2)], q2, e2, by simpa using hl, hk, by rw [headCells_snoc, List.length_append]; exact hown, hbox, ho2, by rw [hall, hn]; simp⟩
theorem HeadsAt.start {W w : World} {b : Nat} {s : ByteArray} {n : Nat} {q e : Int} (hb : Box w b 101 (rdC s q e)) (ho : Off (· = b) W w) : HeadsAt W b s n q e 0 (.slice none 0 0) w :=
  ⟨[], q, e, rfl, Nat.zero_le _, World.ownsRow_nil _ _ _ _, hb, ho, by simp⟩
set_option maxHeartbeats 2000000 in
set_option maxRecDepth 100000 in
theorem pheads_in (s : ByteArray) (p er e1 : Int) (m b : Nat) (W : World) (R : List Hd × Int × Int) (hs : s.size ≤ 1152921504606846976) (hblt : b < W.heap.size) (hm : m ≤ 10) (hR : R = rdH s m p e1) (he : dem er true = e1)
    (hn : Calls Tryd.prog 71 #[.pointer (some ⟨b, 0, none⟩)] W (Moved W b 101 (.int .i64 (m : Int)) s p er)) :
    Calls Tryd.prog 73 #[.pointer (some ⟨b, 0, none⟩)] W (GotHeads W b s R.1 R.2.1 R.2.2) := by
  have HRR := Lib.hid hR
  clear hR
  have hdm := fun w hx => pdem_c s p er true b w hx
  rw [he] at hdm
  clear he
  have h10 : (m : Int) ≤ 10 := by omega
  go_enter Tryd.func73, Tryd.ntmps73
  go_wp2_with ((with_reducible refine hn.mono ?_); rintro en w1 ⟨rfl, hb1, ho1⟩; have HB1 := Lib.hid hb1; have HO1 := Lib.hid ho1; clear hb1 ho1)
  go_wp2_with ((with_reducible refine (hdm _ HB1.out).mono ?_); rintro en w2 ⟨rfl, hb2, ho2⟩; have HB2 := Lib.hid hb2; have HO2 := Lib.hid (HO1.out.trans ho2 (fun _ _ x => x)); clear hb2 ho2)
  clear hn hdm HB1 HO1
  have HST := Lib.hid (HeadsAt.start (n := m) HB2.out HO2.out)
  clear HB2 HO2
  go_loopw [4, 5, 6, 7] (fun v i x y wr => ∃ k : Nat, i = .int .i64 k ∧ HeadsAt W b s m p e1 k v wr) (fun _ i _ _ _ => m - (intOf i).toNat)
  case atStart => exact ⟨0, rfl, HST.out⟩
  case round =>
    obtain ⟨k, rfl, hs0, q, e, hl, hkm, hown, hbox, hoff, hall⟩ := hrel
    clear HST
    obtain ⟨c0, c1, c2, f1, f2⟩ := hbox.rd0
    have HB := Lib.hid hbox
    have HO := Lib.hid hoff
    have HW := Lib.hid hown
    have HA := Lib.hid hall
    have HL := Lib.hid hl
    clear hbox hoff hown hall hl
    by_cases hk : k < m
    · by_cases h0 : e = 0
      · subst h0
        have ht1 := fun w hx => prdt_c s q 0 b w hs hx
        have ht2 := fun w hx => prdt_c s (rdT s 1000 q 0).2.1 (rdT s 1000 q 0).2.2 b w hs hx
        have HN : Hid (rdH s (m - k) q 0 = (((rdT s 1000 q 0).1, (rdT s 1000 (rdT s 1000 q 0).2.1 (rdT s 1000 q 0).2.2).1) :: (rdH s (m - (k + 1)) (rdT s 1000 (rdT s 1000 q 0).2.1 (rdT s 1000 q 0).2.2).2.1 (rdT s 1000 (rdT s 1000 q 0).2.1 (rdT s 1000 q 0).2.2).2.2).1, (rdH s (m - (k + 1)) (rdT s 1000 (rdT s 1000 q 0).2.1 (rdT s 1000 q 0).2.2).2.1 (rdT s 1000 (rdT s 1000 q 0).2.1 (rdT s 1000 q 0).2.2).2.2).2)) :=
          Lib.hid (by rw [show m - k = (m - (k + 1)) + 1 by omega, rdH, if_pos rfl])
        generalize (rdT s 1000 q 0).1 = x1 at *
        generalize (rdT s 1000 q 0).2.1 = q1 at *
        generalize (rdT s 1000 q 0).2.2 = e2 at *
        generalize (rdT s 1000 q1 e2).1 = x2 at *
        generalize (rdT s 1000 q1 e2).2.1 = q2 at *
        generalize (rdT s 1000 q1 e2).2.2 = e3 at *
        go_wp2_with ((with_reducible refine (ht1 _ HB.out).mono ?_); rintro en w1 ⟨rfl, hb1, ho1⟩; have HB1 := Lib.hid hb1; have HO1 := Lib.hid ho1; clear hb1 ho1)
        refine (ht2 _ HB1.out).mono ?_
        rintro en w2 ⟨rfl, hb2, ho2⟩
        have HB2 := Lib.hid hb2
        have HO2 := Lib.hid (HO1.out.trans ho2 (fun _ _ x => x))
        have HW2 := Lib.hid (HW.out.kept HO2.out.to_grown (own_not HW.out hblt))
        clear hb2 ho2
        obtain ⟨i0, hi, hz0, hz1, hz2⟩ := info_parts infoHeader
        go_wp2_with (at_builtin; refine wpList_append_own _ rfl _ _ 47 rfl W.heap.size 51 i0 (.agg #[.string ⟨#[]⟩, .string ⟨#[]⟩]) 2 32 Tryd.underlying47 hi hz0 hz1 hz2 rfl (by decide) _ _ _ rfl (HW2.out.alloc _) ⟨w2.heap.size, 0, none⟩ 1 1 [.string x1, .string x2] rfl rfl ?c1 ?c2 ?c3 ?c4 ?c5 ?_)
        case c1 => exact two_new _ _ _ _
        case c2 => simp [Value.oneCell']
        case c3 => have := HL.out; unfold maxLen; omega
        case c4 => have := HL.out; omega
        case c5 => have h1 := HO.out.size; have h2 := HO2.out.size; simp; omega
        intro v' w3 hown3 hgrow _
        have HB3 := Lib.hid ((HB2.out.alloc (.cells #[.string x1, .string x2] 51)).kept_by hgrow (own_not HW2.out hblt))
        have HO3 := Lib.hid ((((HO.out.trans HO2.out (fun _ _ x => x)).alloc (.cells #[.string x1, .string x2] 51)).grown hgrow (fun k hk hlt => (Nat.not_lt.2 (HW2.out.lt k hk).1 hlt).elim)))
        have HS := Lib.hid (HeadsAt.step HL.out hk HB3.out hown3 HO3.out HA.out HN.out)
        clear hown3 hgrow HB3 HO3 HW2 HB2 HO2 HB1 HO1 HW HA HL HO HB ht1 ht2
        go_wp2
        go_roundw
        case rel => exact ⟨k + 1, by go_num, HS.out⟩
        case measure => simp [intOf]; omega
      · have HE : Hid (R = (hs0, q, e)) := Lib.hid (by rw [HRR.out, HA.out, rdH_err h0]; simp)
        have e1' : (e == 0) = false := by rw [beq_eq_false_iff_ne]; exact h0
        have e2' : (e != 0) = true := by simpa using h0
        clear h0
        obtain ⟨A, c, hv⟩ := own_slice HW.out
        subst hv
        go_wp2
        go_ret
        rw [HE.out]
        exact ⟨A, c, rfl, HW.out, HB.out, HO.out⟩
    · have HE : Hid (R = (hs0, q, e)) := Lib.hid (by rw [HRR.out, HA.out, show m - k = 0 by omega]; simp [rdH])
      obtain ⟨A, c, hv⟩ := own_slice HW.out
      subst hv
      go_wp2
      go_ret
      rw [HE.out]
      exact ⟨A, c, rfl, HW.out, HB.out, HO.out⟩
set_option maxHeartbeats 2000000 in
set_option maxRecDepth 100000 in
theorem pheads_out (s : ByteArray) (n p er e1 : Int) (b : Nat) (W : World) (h0 : -9223372036854775808 ≤ n) (h1 : n ≤ 9223372036854775807) (hn : n < 0 ∨ 10 < n) (hblt : b < W.heap.size) (he : dem er false = e1) (hne : e1 ≠ 0)
    (hc : Calls Tryd.prog 71 #[.pointer (some ⟨b, 0, none⟩)] W (Moved W b 101 (.int .i64 n) s p er)) :
    Calls Tryd.prog 73 #[.pointer (some ⟨b, 0, none⟩)] W (GotHeads W b s [] p e1) := by
  have hdm := fun w hx => pdem_c s p er false b w hx
  rw [he] at hdm
  clear he
  have e1' : (e1 == 0) = false := by rw [beq_eq_false_iff_ne]; exact hne
  have e2' : (e1 != 0) = true := by simpa using hne
  clear hne
  have hd : (n < 0 ∧ decide (0 ≤ n) = false) ∨ (0 ≤ n ∧ 10 < n ∧ decide (n ≤ 10) = false) := by
    rcases hn with hn | hn
    · exact .inl ⟨hn, decide_eq_false (by omega)⟩
    · exact .inr ⟨by omega, hn, decide_eq_false (by omega)⟩
  clear hn
  rcases hd with ⟨g1, g2⟩ | ⟨g0, g1, g2⟩
  all_goals
    go_enter Tryd.func73, Tryd.ntmps73
    go_wp2_with fail
    (with_reducible refine hc.mono ?_)
    rintro en w1 ⟨rfl, hb1, ho1⟩
    have HB1 := Lib.hid hb1
    have HO1 := Lib.hid ho1
    clear hb1 ho1
    go_wp2_with fail
    (with_reducible refine (hdm _ HB1.out).mono ?_)
    rintro en w2 ⟨rfl, hb2, ho2⟩
    have HB2 := Lib.hid hb2
    have HO2 := Lib.hid (HO1.out.trans ho2 (fun _ _ x => x))
    clear hb2 ho2 hdm hc HB1 HO1
    obtain ⟨c0, c1, c2, f1, f2⟩ := HB2.out.rd0
    go_wp2
    go_loopw [4, 5] (fun v i wr => v = .slice none 0 0 ∧ i = .int .i64 0 ∧ wr = w2) (fun _ _ _ => 0)
    case atStart => exact ⟨rfl, rfl, rfl⟩
    case round =>
      obtain ⟨rfl, rfl, rfl⟩ := hrel
      go_wp2
      go_ret
      exact ⟨none, 0, rfl, World.ownsRow_nil _ _ _ _, HB2.out, HO2.out⟩
theorem pheads_c (s : ByteArray) (q e : Int) (b : Nat) (W : World) (hs : s.size ≤ 1152921504606846976) (h : Box W b 101 (rdC s q e)) :
    Calls Tryd.prog 73 #[.pointer (some ⟨b, 0, none⟩)] W
      (GotHeads W b s (rdH s (rdN s q e).1.toNat (rdN s q e).2.1 (manyE (rdN s q e).1 (rdN s q e).2.2)).1 (rdH s (rdN s q e).1.toNat (rdN s q e).2.1 (manyE (rdN s q e).1 (rdN s q e).2.2)).2.1 (rdH s (rdN s q e).1.toNat (rdN s q e).2.1 (manyE (rdN s q e).1 (rdN s q e).2.2)).2.2) := by
  have hn := prdn_c s q e b W hs h
  have hblt := h.lt
  have hrange : -9223372036854775808 ≤ (rdN s q e).1 ∧ (rdN s q e).1 ≤ 9223372036854775807 := by
    by_cases c : (rdN s q e).2.2 = 0
    · exact (rdN_ok c).2.2
    · unfold rdN at c ⊢
      split
      · rename_i h0; rw [if_pos h0] at c; rw [(getG_err c).1]; decide
      · simp
  clear h
  generalize (rdN s q e).1 = n at *
  generalize (rdN s q e).2.1 = p at *
  generalize (rdN s q e).2.2 = er at *
  by_cases hr : 0 ≤ n ∧ n ≤ 10
  · obtain ⟨m, rfl⟩ : ∃ m : Nat, n = m := ⟨n.toNat, by omega⟩
    rw [Int.toNat_natCast]
    refine pheads_in s p er _ m b W _ hs hblt (by omega) rfl ?_ hn
    unfold dem manyE
    rw [if_neg (fun x => by cases x.2), if_neg (fun x => x.2 hr)]
  · have he : dem er false = manyE n er := by
      unfold dem manyE
      by_cases c : er = 0
      · rw [if_pos ⟨c, rfl⟩, if_pos ⟨c, hr⟩]
      · rw [if_neg (fun x => c x.1), if_neg (fun x => c x.1)]
    have hne : manyE n er ≠ 0 := by
      unfold manyE
      by_cases c : er = 0
      · rw [if_pos ⟨c, hr⟩]; decide
      · rw [if_neg (fun x => c x.1)]; exact c
    rw [rdH_err hne]
    exact pheads_out s n p er _ b W hrange.1 hrange.2 (by omega) hblt he hne hn
end Go.Proofs.YtmhamfhhojmeoaaDoor
