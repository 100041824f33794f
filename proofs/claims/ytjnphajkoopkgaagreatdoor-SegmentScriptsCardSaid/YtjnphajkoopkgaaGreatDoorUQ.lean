/- Merged texts. What each proves is told at its head. -/
import Derived.Test.YtjnphajkoopkgaaGreatDoorUB
import Derived.Test.YtjnphajkoopkgaaGreatDoorMem
import Derived.WalkKit
import Derived.ProofKit
import Derived.Test.YtjnphajkoopkgaaGreatDoorUC
import Derived.Test.YtjnphajkoopkgaaGreatDoorPTake
import Derived.BigQuiet
import Derived.Deep.QuietTactic
import Derived.Laws.AppendOwn
import Derived.RegionTactic
import Derived.ChangeAlike
/- A reader in memory: its three cells, and what a method leaves. Plain words. No condition. -/
namespace Go.Proofs.YtjnphajkoopkgaaGreatDoor
open Go.RowKit
set_option linter.unusedVariables false
/-- A reader's three cells. -/
def rdC (s : ByteArray) (q e : Int) : Array Value := #[.string s, .int .i64 q, .int .i64 e]
def Moved (W : World) (b : Nat) (t : TypeId) (v : Value) (s : ByteArray) (q e : Int) (en : Ending) (w' : World) : Prop := en = .returned v ∧ Box w' b t (rdC s q e) ∧ Off (· = b) W w'
theorem Box.rd0 {w : World} {b : Nat} {t : TypeId} {s : ByteArray} {q e : Int} (h : Box w b t (rdC s q e)) : w.cell? ⟨b, 0, none⟩ = some (.string s) ∧ w.cell? ⟨b, 1, none⟩ = some (.int .i64 q) ∧ w.cell? ⟨b, 2, none⟩ = some (.int .i64 e) ∧ w.frozen? ⟨b, 1, none⟩ = false ∧ w.frozen? ⟨b, 2, none⟩ = false :=
  ⟨by rw [h.cell]; rfl, by rw [h.cell]; rfl, by rw [h.cell]; rfl, h.frozen 1, h.frozen 2⟩
/-- An error of the form, if what was read is not right. -/
def dem (e : Int) (b : Bool) : Int := if e = 0 ∧ b = false then 3 else e
def Done (W : World) (b : Nat) (t : TypeId) (s : ByteArray) (q e : Int) (en : Ending) (w' : World) : Prop := en = .returned (.tuple #[]) ∧ Box w' b t (rdC s q e) ∧ Off (· = b) W w'
/-- The place and the error stored, in either order. -/
theorem rdC_set2 {w : World} {b : Nat} {t : TypeId} {s : ByteArray} {q e q' e' : Int} (h : Box w b t (rdC s q e)) : Box ((w.setCell ⟨b, 2, none⟩ (.int .i64 e')).setCell ⟨b, 1, none⟩ (.int .i64 q')) b t (rdC s q' e') := (h.set 2 _).set 1 _
end Go.Proofs.YtjnphajkoopkgaaGreatDoor
/- The program's reader, method by method: what it returns, and what becomes of the reader. -/
namespace Go.Proofs.YtjnphajkoopkgaaGreatDoor
open Go.RowKit
set_option linter.unusedVariables false
set_option maxHeartbeats 1000000 in
set_option maxRecDepth 100000 in
theorem prdn_c (s : ByteArray) (q e : Int) (b : Nat) (W : World) (hs : s.size ≤ 1152921504606846976) (h : Box W b 190 (rdC s q e)) :
    Calls Tryz.prog 151 #[.pointer (some ⟨b, 0, none⟩)] W (Moved W b 190 (.int .i64 (rdN s q e).1) s (rdN s q e).2.1 (rdN s q e).2.2) := by
  obtain ⟨c0, c1, c2, f1, f2⟩ := h.rd0
  by_cases he : e = 0
  · have hg := fun w => get_c s q w hs
    have hr : rdN s q e = getG s q := by unfold rdN; rw [if_pos he]
    rw [hr]
    clear hr
    subst he
    have HB := Lib.hid h
    clear h
    generalize (getG s q).1 = n at *
    generalize (getG s q).2.1 = p at *
    generalize (getG s q).2.2 = er at *
    unfold Tri at hg
    go_enter Tryz.func151, Tryz.ntmps151
    go_wp2
    go_quiet ((go_at_call 114; exact Calls.quiet_of ((hg _).mono fun _ _ ⟨h1, h2⟩ => ⟨h1, 0, h2.symm⟩)))
    go_wp2
    go_ret
    exact ⟨rfl, ((HB.out.drewN nq).set 1 _).set 2 _, (((Off.refl (· = b) W).drewN nq).set (.inl rfl) _).set (.inl rfl) _⟩
  · rw [rdN_err he]
    have HB := Lib.hid h
    have e1 : (e == 0) = false := by rw [beq_eq_false_iff_ne]; exact he
    have e2 : (e != 0) = true := by simpa using he
    clear h he
    go_enter Tryz.func151, Tryz.ntmps151
    go_wp2
    go_ret
    exact ⟨rfl, HB.out, Off.refl (· = b) W⟩
set_option maxHeartbeats 1000000 in
set_option maxRecDepth 100000 in
theorem prdt_c (s : ByteArray) (q e : Int) (b : Nat) (W : World) (hs : s.size ≤ 1152921504606846976) (h : Box W b 190 (rdC s q e)) :
    Calls Tryz.prog 152 #[.pointer (some ⟨b, 0, none⟩)] W (Moved W b 190 (.string (rdT s 1000 q e).1) s (rdT s 1000 q e).2.1 (rdT s 1000 q e).2.2) := by
  obtain ⟨c0, c1, c2, f1, f2⟩ := h.rd0
  by_cases he : e = 0
  · have hg := fun w => take_c s q 1000 w hs (by decide)
    have hr : rdT s 1000 q e = takeG s q 1000 := by unfold rdT; rw [if_pos he]
    rw [hr]
    clear hr
    subst he
    have HB := Lib.hid h
    clear h
    generalize (takeG s q 1000).1 = n at *
    generalize (takeG s q 1000).2.1 = p at *
    generalize (takeG s q 1000).2.2 = er at *
    unfold Sri at hg
    go_enter Tryz.func152, Tryz.ntmps152
    go_wp2
    go_region_with (go_at_call 170; (with_reducible refine (hg _).mono ?_); rintro e w1 ⟨rfl, hb1⟩)
    all_goals
      have HB1 : Hid (Box w1 b 190 (rdC s q 0)) := Lib.hid (HB.out.drew.later hb1)
      obtain ⟨d0, d1, d2, g1, g2⟩ := HB1.out.rd0
      go_wp2
      go_ret
      exact ⟨rfl, (HB1.out.set 1 _).set 2 _, ((((Off.refl (· = b) W).drew).later hb1).set (.inl rfl) _).set (.inl rfl) _⟩
  · rw [rdT_err he]
    have HB := Lib.hid h
    have e1 : (e == 0) = false := by rw [beq_eq_false_iff_ne]; exact he
    have e2 : (e != 0) = true := by simpa using he
    clear h he
    go_enter Tryz.func152, Tryz.ntmps152
    go_wp2
    go_ret
    exact ⟨rfl, HB.out, Off.refl (· = b) W⟩
set_option maxHeartbeats 1000000 in
set_option maxRecDepth 100000 in
theorem pdem_c (s : ByteArray) (q e : Int) (r : Bool) (b : Nat) (W : World) (h : Box W b 190 (rdC s q e)) :
    Calls Tryz.prog 154 #[.pointer (some ⟨b, 0, none⟩), .bool r] W (Done W b 190 s q (dem e r)) := by
  obtain ⟨c0, c1, c2, f1, f2⟩ := h.rd0
  have HB := Lib.hid h
  clear h
  by_cases he : e = 0
  · subst he
    cases r with
    | true =>
      have hd : Hid (dem 0 true = 0) := Lib.hid rfl
      go_enter Tryz.func154, Tryz.ntmps154
      go_wp2
      go_end0
      exact ⟨rfl, by rw [hd.out]; exact HB.out, Off.refl (· = b) W⟩
    | false =>
      have hd : Hid (dem 0 false = 3) := Lib.hid rfl
      go_enter Tryz.func154, Tryz.ntmps154
      go_wp2
      go_end0
      exact ⟨rfl, by rw [hd.out]; exact HB.out.set 2 _, (Off.refl (· = b) W).set (.inl rfl) _⟩
  · have hd : Hid (dem e r = e) := Lib.hid (by unfold dem; rw [if_neg (fun x => he x.1)])
    have e1 : (e == 0) = false := by rw [beq_eq_false_iff_ne]; exact he
    have e2 : (e != 0) = true := by simpa using he
    clear he
    go_enter Tryz.func154, Tryz.ntmps154
    go_wp2
    go_end0
    exact ⟨rfl, by rw [hd.out]; exact HB.out, Off.refl (· = b) W⟩
end Go.Proofs.YtjnphajkoopkgaaGreatDoor
/- The program's reader: headers, record; Decode. -/
namespace Go.Proofs.YtjnphajkoopkgaaGreatDoor
open Go.RowKit
set_option linter.unusedVariables false
/-- The cells of a list of headers. -/
def headCells (hs : List Hd) : List Value := hs.flatMap fun h => [.string h.1, .string h.2]
theorem headCells_len (hs : List Hd) : (headCells hs).length = hs.length * 2 := by
  induction hs with
  | nil => rfl
  | cons h hs ih => simp [headCells] at ih ⊢; omega
theorem headCells_snoc (hs : List Hd) (h : Hd) : headCells (hs ++ [h]) = headCells hs ++ [.string h.1, .string h.2] := by simp [headCells]
theorem headCells_at {hs : List Hd} {j : Nat} {h : Hd} (hj : hs[j]? = some h) : (headCells hs)[j * 2]? = some (.string h.1) ∧ (headCells hs)[j * 2 + 1]? = some (.string h.2) := by
  induction hs generalizing j with
  | nil => simp at hj
  | cons x hs ih =>
    cases j with
    | zero =>
      have : x = h := by simpa using hj
      subst this
      exact ⟨rfl, rfl⟩
    | succ j =>
      have := ih (j := j) (by simpa using hj)
      have e : headCells (x :: hs) = [.string x.1, .string x.2] ++ headCells hs := rfl
      rw [e, show (j + 1) * 2 = (j * 2) + 2 by omega, show j * 2 + 2 + 1 = (j * 2 + 1) + 2 by omega]
      exact this
theorem hin_of_own {w : World} {base n c : Nat} {A : Option Addr} {hs : List Hd} (h : w.ownsRow base 87 2 (.slice A n c) hs.length (headCells hs)) : HIn w A hs := fun hp => by
  rcases h.2 with ⟨_, h0⟩ | ⟨g, cap, cur, hv, hb, hg, hrest⟩
  · omega
  · injection hv with h1 h2 h3
    subst h1
    refine ⟨g, 0, rfl, lt_of_there hg, fun j x hx => ?_⟩
    obtain ⟨a1, a2⟩ := headCells_at hx
    have c1 := World.ownsRow.cells h (g := g) rfl _ _ a1
    have c2 := World.ownsRow.cells h (g := g) rfl _ _ a2
    have e1 : ∀ i, (⟨g, 0, none⟩ : Addr).add i = ⟨g, i, none⟩ := fun i => by unfold Addr.add; split <;> simp_all
    rw [e1] at c1 c2
    simp only [Nat.zero_add]
    exact ⟨c1, c2⟩
theorem Off.to_grown {w w' : World} {b : Nat} (h : Off (· = b) w w') : w.grownBy w' (some b) := ⟨h.os, h.tape, h.output, h.size, fun k hk hne => h.block k hk (fun e => hne (by rw [e]))⟩
theorem infoHeader : (Tryz.prog.info? 87).map (fun i => (i.zero, i.size, i.bytes)) = some (some (.agg #[.string ⟨#[]⟩, .string ⟨#[]⟩]), 2, 32) := by kernel_rfl
/-- Half way: hs have been read, k of n. -/
structure HeadsAt (W : World) (b : Nat) (s : ByteArray) (n : Nat) (q0 e0 : Int) (k : Nat) (v : Value) (wr : World) : Prop where
  ex : ∃ (hs : List Hd) (q e : Int), hs.length = k ∧ k ≤ n ∧ wr.ownsRow W.heap.size 87 2 v hs.length (headCells hs) ∧ Box wr b 190 (rdC s q e) ∧ Off (· = b) W wr ∧
    rdH s n q0 e0 = (hs ++ (rdH s (n - k) q e).1, (rdH s (n - k) q e).2)
def GotHeads (W : World) (b : Nat) (s : ByteArray) (hs : List Hd) (q e : Int) (en : Ending) (w' : World) : Prop :=
  ∃ A c, en = .returned (.slice A hs.length c) ∧ w'.ownsRow W.heap.size 87 2 (.slice A hs.length c) hs.length (headCells hs) ∧ Box w' b 190 (rdC s q e) ∧ Off (· = b) W w'
theorem own_not {W wr : World} {b t size n : Nat} {v : Value} {xs : List Value} (h : wr.ownsRow W.heap.size t size v n xs) (hb : b < W.heap.size) : v.ownBlock = none ∨ v.ownBlock ≠ some b :=
  .inr fun e => by have := (h.lt b e).1; omega
theorem Box.kept_by {w w' : World} {b : Nat} {t : TypeId} {cs : Array Value} {row : Option Nat} (h : Box w b t cs) (hg : w.grownBy w' row) (hr : row = none ∨ row ≠ some b) : Box w' b t cs :=
  (hg.block b h.lt (fun e => by rcases hr with h1 | h1 <;> simp_all)).trans h
theorem own_slice {w : World} {base t size n : Nat} {v : Value} {xs : List Value} (h : w.ownsRow base t size v n xs) : ∃ A c, v = .slice A n c := by
  rcases h.2 with ⟨hv, h0⟩ | ⟨g, cap, cur, hv, _⟩
  · exact ⟨none, 0, by rw [hv, h0]⟩
  · exact ⟨_, _, hv⟩
theorem two_new (w : World) (t : TypeId) (x y : Value) : ∀ j u, [x, y][j]? = some u → (w.alloc (.cells #[x, y] t)).cell? ((⟨w.heap.size, 0, none⟩ : Addr).add j) = some u := by
  intro j u hj
  have e1 : ∀ i, (⟨w.heap.size, 0, none⟩ : Addr).add i = ⟨w.heap.size, i, none⟩ := fun i => by unfold Addr.add; split <;> simp_all
  rw [e1, (Box.new w t #[x, y]).cell]
  simpa using hj
theorem HeadsAt.step {W w3 : World} {b : Nat} {s : ByteArray} {n k : Nat} {q0 e0 q q2 e2 : Int} {hs0 : List Hd} {x1 x2 : ByteArray} {v' : Value} (hl : hs0.length = k) (hk : k < n) (hbox : Box w3 b 190 (rdC s q2 e2)) (hown : w3.ownsRow W.heap.size 87 2 v' (hs0.length + 1) (headCells hs0 ++ [.string x1, .string x2]))
    (ho2 : Off (· = b) W w3) (hall : rdH s n q0 e0 = (hs0 ++ (rdH s (n - k) q 0).1, (rdH s (n - k) q 0).2)) (hn : rdH s (n - k) q 0 = ((x1, x2) :: (rdH s (n - (k + 1)) q2 e2).1, (rdH s (n - (k + 1)) q2 e2).2)) : HeadsAt W b s n q0 e0 (k + 1) v' w3 :=
  ⟨hs0 ++ [(x1, x2)], q2, e2, by simpa using hl, hk, by rw [headCells_snoc, List.length_append]; exact hown, hbox, ho2, by rw [hall, hn]; simp⟩
theorem HeadsAt.start {W w : World} {b : Nat} {s : ByteArray} {n : Nat} {q e : Int} (hb : Box w b 190 (rdC s q e)) (ho : Off (· = b) W w) : HeadsAt W b s n q e 0 (.slice none 0 0) w :=
  ⟨[], q, e, rfl, Nat.zero_le _, World.ownsRow_nil _ _ _ _, hb, ho, by simp⟩
set_option maxHeartbeats 2000000 in
set_option maxRecDepth 100000 in
theorem pheads_in (s : ByteArray) (p er e1 : Int) (m b : Nat) (W : World) (R : List Hd × Int × Int) (hs : s.size ≤ 1152921504606846976) (hblt : b < W.heap.size) (hm : m ≤ 10) (hR : R = rdH s m p e1) (he : dem er true = e1)
    (hn : Calls Tryz.prog 151 #[.pointer (some ⟨b, 0, none⟩)] W (Moved W b 190 (.int .i64 (m : Int)) s p er)) :
    Calls Tryz.prog 153 #[.pointer (some ⟨b, 0, none⟩)] W (GotHeads W b s R.1 R.2.1 R.2.2) := by
  have HRR := Lib.hid hR
  clear hR
  have hdm := fun w hx => pdem_c s p er true b w hx
  rw [he] at hdm
  clear he
  have h10 : (m : Int) ≤ 10 := by omega
  go_enter Tryz.func153, Tryz.ntmps153
  go_wp2_with ((with_reducible refine hn.mono ?_); rintro en w1 ⟨rfl, hb1, ho1⟩; have HB1 := Lib.hid hb1; have HO1 := Lib.hid ho1; clear hb1 ho1)
  go_wp2_with ((with_reducible refine (hdm _ HB1.out).mono ?_); rintro en w2 ⟨rfl, hb2, ho2⟩; have HB2 := Lib.hid hb2; have HO2 := Lib.hid (HO1.out.trans ho2 (fun _ _ x => x)); clear hb2 ho2)
  clear hn hdm HB1 HO1
  have HST := Lib.hid (HeadsAt.start (n := m) HB2.out HO2.out)
  clear HB2 HO2
  go_loopw [4, 5, 6, 7] (fun v i x y wr => ∃ k : Nat, i = .int .i64 k ∧ HeadsAt W b s m p e1 k v wr) (fun _ i _ _ _ => m - (intOf i).toNat)
  case atStart => exact ⟨0, rfl, HST.out⟩
  case round =>
    obtain ⟨k, rfl, hs0, q, e, hl, hkm, hown, hbox, hoff, hall⟩ := hrel
    clear HST
    obtain ⟨c0, c1, c2, f1, f2⟩ := hbox.rd0
    have HB := Lib.hid hbox
    have HO := Lib.hid hoff
    have HW := Lib.hid hown
    have HA := Lib.hid hall
    have HL := Lib.hid hl
    clear hbox hoff hown hall hl
    by_cases hk : k < m
    · by_cases h0 : e = 0
      · subst h0
        have ht1 := fun w hx => prdt_c s q 0 b w hs hx
        have ht2 := fun w hx => prdt_c s (rdT s 1000 q 0).2.1 (rdT s 1000 q 0).2.2 b w hs hx
        have HN : Hid (rdH s (m - k) q 0 = (((rdT s 1000 q 0).1, (rdT s 1000 (rdT s 1000 q 0).2.1 (rdT s 1000 q 0).2.2).1) :: (rdH s (m - (k + 1)) (rdT s 1000 (rdT s 1000 q 0).2.1 (rdT s 1000 q 0).2.2).2.1 (rdT s 1000 (rdT s 1000 q 0).2.1 (rdT s 1000 q 0).2.2).2.2).1, (rdH s (m - (k + 1)) (rdT s 1000 (rdT s 1000 q 0).2.1 (rdT s 1000 q 0).2.2).2.1 (rdT s 1000 (rdT s 1000 q 0).2.1 (rdT s 1000 q 0).2.2).2.2).2)) :=
          Lib.hid (by rw [show m - k = (m - (k + 1)) + 1 by omega, rdH, if_pos rfl])
        generalize (rdT s 1000 q 0).1 = x1 at *
        generalize (rdT s 1000 q 0).2.1 = q1 at *
        generalize (rdT s 1000 q 0).2.2 = e2 at *
        generalize (rdT s 1000 q1 e2).1 = x2 at *
        generalize (rdT s 1000 q1 e2).2.1 = q2 at *
        generalize (rdT s 1000 q1 e2).2.2 = e3 at *
        go_wp2_with ((with_reducible refine (ht1 _ HB.out).mono ?_); rintro en w1 ⟨rfl, hb1, ho1⟩; have HB1 := Lib.hid hb1; have HO1 := Lib.hid ho1; clear hb1 ho1)
        refine (ht2 _ HB1.out).mono ?_
        rintro en w2 ⟨rfl, hb2, ho2⟩
        have HB2 := Lib.hid hb2
        have HO2 := Lib.hid (HO1.out.trans ho2 (fun _ _ x => x))
        have HW2 := Lib.hid (HW.out.kept HO2.out.to_grown (own_not HW.out hblt))
        clear hb2 ho2
        obtain ⟨i0, hi, hz0, hz1, hz2⟩ := info_parts infoHeader
        go_wp2_with (at_builtin; refine wpList_append_own _ rfl _ _ 83 rfl W.heap.size 87 i0 (.agg #[.string ⟨#[]⟩, .string ⟨#[]⟩]) 2 32 Tryz.underlying83 hi hz0 hz1 hz2 rfl (by decide) _ _ _ rfl (HW2.out.alloc _) ⟨w2.heap.size, 0, none⟩ 1 1 [.string x1, .string x2] rfl rfl ?c1 ?c2 ?c3 ?c4 ?c5 ?_)
        case c1 => exact two_new _ _ _ _
        case c2 => simp [Value.oneCell']
        case c3 => have := HL.out; unfold maxLen; omega
        case c4 => have := HL.out; omega
        case c5 => have h1 := HO.out.size; have h2 := HO2.out.size; simp; omega
        intro v' w3 hown3 hgrow _
        have HB3 := Lib.hid ((HB2.out.alloc (.cells #[.string x1, .string x2] 87)).kept_by hgrow (own_not HW2.out hblt))
        have HO3 := Lib.hid ((((HO.out.trans HO2.out (fun _ _ x => x)).alloc (.cells #[.string x1, .string x2] 87)).grown hgrow (fun k hk hlt => (Nat.not_lt.2 (HW2.out.lt k hk).1 hlt).elim)))
        have HS := Lib.hid (HeadsAt.step HL.out hk HB3.out hown3 HO3.out HA.out HN.out)
        clear hown3 hgrow HB3 HO3 HW2 HB2 HO2 HB1 HO1 HW HA HL HO HB ht1 ht2
        go_wp2
        go_roundw
        case rel => exact ⟨k + 1, by go_num, HS.out⟩
        case measure => simp [intOf]; omega
      · have HE : Hid (R = (hs0, q, e)) := Lib.hid (by rw [HRR.out, HA.out, rdH_err h0]; simp)
        have e1' : (e == 0) = false := by rw [beq_eq_false_iff_ne]; exact h0
        have e2' : (e != 0) = true := by simpa using h0
        clear h0
        obtain ⟨A, c, hv⟩ := own_slice HW.out
        subst hv
        go_wp2
        go_ret
        rw [HE.out]
        exact ⟨A, c, rfl, HW.out, HB.out, HO.out⟩
    · have HE : Hid (R = (hs0, q, e)) := Lib.hid (by rw [HRR.out, HA.out, show m - k = 0 by omega]; simp [rdH])
      obtain ⟨A, c, hv⟩ := own_slice HW.out
      subst hv
      go_wp2
      go_ret
      rw [HE.out]
      exact ⟨A, c, rfl, HW.out, HB.out, HO.out⟩
set_option maxHeartbeats 2000000 in
set_option maxRecDepth 100000 in
theorem pheads_out (s : ByteArray) (n p er e1 : Int) (b : Nat) (W : World) (h0 : -9223372036854775808 ≤ n) (h1 : n ≤ 9223372036854775807) (hn : n < 0 ∨ 10 < n) (hblt : b < W.heap.size) (he : dem er false = e1) (hne : e1 ≠ 0)
    (hc : Calls Tryz.prog 151 #[.pointer (some ⟨b, 0, none⟩)] W (Moved W b 190 (.int .i64 n) s p er)) :
    Calls Tryz.prog 153 #[.pointer (some ⟨b, 0, none⟩)] W (GotHeads W b s [] p e1) := by
  have hdm := fun w hx => pdem_c s p er false b w hx
  rw [he] at hdm
  clear he
  have e1' : (e1 == 0) = false := by rw [beq_eq_false_iff_ne]; exact hne
  have e2' : (e1 != 0) = true := by simpa using hne
  clear hne
  have hd : (n < 0 ∧ decide (0 ≤ n) = false) ∨ (0 ≤ n ∧ 10 < n ∧ decide (n ≤ 10) = false) := by
    rcases hn with hn | hn
    · exact .inl ⟨hn, decide_eq_false (by omega)⟩
    · exact .inr ⟨by omega, hn, decide_eq_false (by omega)⟩
  clear hn
  rcases hd with ⟨g1, g2⟩ | ⟨g0, g1, g2⟩
  all_goals
    go_enter Tryz.func153, Tryz.ntmps153
    go_wp2_with fail
    (with_reducible refine hc.mono ?_)
    rintro en w1 ⟨rfl, hb1, ho1⟩
    have HB1 := Lib.hid hb1
    have HO1 := Lib.hid ho1
    clear hb1 ho1
    go_wp2_with fail
    (with_reducible refine (hdm _ HB1.out).mono ?_)
    rintro en w2 ⟨rfl, hb2, ho2⟩
    have HB2 := Lib.hid hb2
    have HO2 := Lib.hid (HO1.out.trans ho2 (fun _ _ x => x))
    clear hb2 ho2 hdm hc HB1 HO1
    obtain ⟨c0, c1, c2, f1, f2⟩ := HB2.out.rd0
    go_wp2
    go_loopw [4, 5] (fun v i wr => v = .slice none 0 0 ∧ i = .int .i64 0 ∧ wr = w2) (fun _ _ _ => 0)
    case atStart => exact ⟨rfl, rfl, rfl⟩
    case round =>
      obtain ⟨rfl, rfl, rfl⟩ := hrel
      go_wp2
      go_ret
      exact ⟨none, 0, rfl, World.ownsRow_nil _ _ _ _, HB2.out, HO2.out⟩
theorem pheads_c (s : ByteArray) (q e : Int) (b : Nat) (W : World) (hs : s.size ≤ 1152921504606846976) (h : Box W b 190 (rdC s q e)) :
    Calls Tryz.prog 153 #[.pointer (some ⟨b, 0, none⟩)] W
      (GotHeads W b s (rdH s (rdN s q e).1.toNat (rdN s q e).2.1 (manyE (rdN s q e).1 (rdN s q e).2.2)).1 (rdH s (rdN s q e).1.toNat (rdN s q e).2.1 (manyE (rdN s q e).1 (rdN s q e).2.2)).2.1 (rdH s (rdN s q e).1.toNat (rdN s q e).2.1 (manyE (rdN s q e).1 (rdN s q e).2.2)).2.2) := by
  have hn := prdn_c s q e b W hs h
  have hblt := h.lt
  have hrange : -9223372036854775808 ≤ (rdN s q e).1 ∧ (rdN s q e).1 ≤ 9223372036854775807 := by
    by_cases c : (rdN s q e).2.2 = 0
    · exact (rdN_ok c).2.2
    · unfold rdN at c ⊢
      split
      · rename_i h0; rw [if_pos h0] at c; rw [(getG_err c).1]; decide
      · simp
  clear h
  generalize (rdN s q e).1 = n at *
  generalize (rdN s q e).2.1 = p at *
  generalize (rdN s q e).2.2 = er at *
  by_cases hr : 0 ≤ n ∧ n ≤ 10
  · obtain ⟨m, rfl⟩ : ∃ m : Nat, n = m := ⟨n.toNat, by omega⟩
    rw [Int.toNat_natCast]
    refine pheads_in s p er _ m b W _ hs hblt (by omega) rfl ?_ hn
    unfold dem manyE
    rw [if_neg (fun x => by cases x.2), if_neg (fun x => x.2 hr)]
  · have he : dem er false = manyE n er := by
      unfold dem manyE
      by_cases c : er = 0
      · rw [if_pos ⟨c, rfl⟩, if_pos ⟨c, hr⟩]
      · rw [if_neg (fun x => c x.1), if_neg (fun x => c x.1)]
    have hne : manyE n er ≠ 0 := by
      unfold manyE
      by_cases c : er = 0
      · rw [if_pos ⟨c, hr⟩]; decide
      · rw [if_neg (fun x => c x.1)]; exact c
    rw [rdH_err hne]
    exact pheads_out s n p er _ b W hrange.1 hrange.2 (by omega) hblt he hne hn
end Go.Proofs.YtjnphajkoopkgaaGreatDoor
/- The program's reader of a whole record, and Decode. -/
namespace Go.Proofs.YtjnphajkoopkgaaGreatDoor
open Go.RowKit
set_option linter.unusedVariables false
theorem rdT_size (s : ByteArray) (q e : Int) : (rdT s 1000 q e).1.size ≤ 1000 := by
  by_cases h : (rdT s 1000 q e).2.2 = 0
  · have := (rdT_ok h).2.2; omega
  · unfold rdT at h ⊢
    split
    · rename_i h0
      rw [if_pos h0] at h
      unfold takeG at h ⊢
      by_cases c1 : (getG s q).2.2 ≠ 0
      · rw [if_pos c1]; exact Nat.zero_le 1000
      · rw [if_neg c1] at h ⊢
        by_cases c2 : (getG s q).1 < 0 ∨ 1000 < (getG s q).1
        · rw [if_pos c2]; exact Nat.zero_le 1000
        · rw [if_neg c2] at h ⊢
          by_cases c3 : (s.size : Int) - (getG s q).2.1 < (getG s q).1
          · rw [if_pos c3]; exact Nat.zero_le 1000
          · rw [if_neg c3] at h; exact absurd rfl h
    · exact Nat.zero_le 1000
theorem rdH_each (s : ByteArray) : ∀ (k : Nat) (q e : Int), ∀ h ∈ (rdH s k q e).1, h.1.size ≤ 1000 ∧ h.2.size ≤ 1000
  | 0, _, _ => by simp [rdH]
  | k + 1, q, e => by
    intro h hh
    rw [rdH] at hh
    split at hh
    · rcases List.mem_cons.1 hh with rfl | hh
      · exact ⟨rdT_size _ _ _, rdT_size _ _ _⟩
      · exact rdH_each s k _ _ h hh
    · simp at hh
theorem rdHeads_len (s : ByteArray) (p : Int) : (rdHeads s p).1.length ≤ 10 := by
  unfold rdHeads
  by_cases h : manyE (rdMany s p).1 (rdMany s p).2.2 = 0
  · have h2 : (rdMany s p).1 ≤ 10 := by
      unfold manyE at h
      by_cases c : (rdMany s p).2.2 = 0 ∧ ¬ (0 ≤ (rdMany s p).1 ∧ (rdMany s p).1 ≤ 10)
      · rw [if_pos c] at h; cases h
      · rw [if_neg c] at h; omega
    have := rdH_len s (rdMany s p).1.toNat (rdMany s p).2.1 (manyE (rdMany s p).1 (rdMany s p).2.2)
    omega
  · rw [rdH_err h]; simp
/-- What the program's reader has when all is read. -/
def bit (m x : Int) : Bool := bits .and .i64 m x != 0
def rdRecP (s : ByteArray) (p : Int) : Rec := ⟨(rdPlace s p).1, (rdTime s p).1, bit (rdMark s p).1 1, (rdKey s p).1, bit (rdMark s p).1 2, (rdValue s p).1, (rdHeads s p).1⟩
def rightP (s : ByteArray) (p : Int) : Bool := decide ((rdMark s p).1 = marks (bit (rdMark s p).1 1) (bit (rdMark s p).1 2)) && okRec (rdRecP s p)
theorem bits_small {m : Int} (h : 0 ≤ m ∧ m ≤ 3) : bit m 1 = decide (m = 1 ∨ m = 3) ∧ bit m 2 = decide (m = 2 ∨ m = 3) := by
  obtain rfl | rfl | rfl | rfl : m = 0 ∨ m = 1 ∨ m = 2 ∨ m = 3 := by omega
  all_goals exact ⟨by decide +kernel, by decide +kernel⟩
theorem rdRecP_eq {s : ByteArray} {p : Int} (h : 0 ≤ (rdMark s p).1 ∧ (rdMark s p).1 ≤ 3) : rdRecP s p = rdRec s p := by
  obtain ⟨h1, h2⟩ := bits_small h
  unfold rdRecP rdRec
  rw [h1, h2]
theorem rightP_eq (s : ByteArray) (p : Int) : rightP s p = rdRight s p := by
  unfold rightP rdRight
  by_cases h : 0 ≤ (rdMark s p).1 ∧ (rdMark s p).1 ≤ 3
  · obtain ⟨h1, h2⟩ := bits_small h
    rw [rdRecP_eq h, h1, h2, marks_of h, decide_eq_true h]
    simp
  · rw [decide_eq_false h]
    have hm := marks_cases (bit (rdMark s p).1 1) (bit (rdMark s p).1 2)
    rw [decide_eq_false (by intro e; rw [← e] at hm; omega)]
    rfl
/-- The error when all is read. -/
def lastE (s : ByteArray) (p : Int) : Int := dem (rdHeads s p).2.2 (rightP s p)
theorem dec_last (s : ByteArray) (p : Int) : decR s p = if lastE s p = 0 then (rdRecP s p, (rdHeads s p).2.1, 0) else (recZero, 0, lastE s p) := by
  unfold decR lastE dem
  rw [rightP_eq]
  by_cases h : (rdHeads s p).2.2 = 0
  · rw [h]
    cases hr : rdRight s p with
    | true =>
      have hm : 0 ≤ (rdMark s p).1 ∧ (rdMark s p).1 ≤ 3 := by
        simp only [rdRight, Bool.and_eq_true, decide_eq_true_eq] at hr
        exact hr.1
      rw [rdRecP_eq hm]
      simp
    | false => simp
  · simp [h]
def zeroC : Array Value := #[.int .i64 0, .int .i64 0, .bool false, .string ⟨#[]⟩, .bool false, .string ⟨#[]⟩, .slice none 0 0]
/-- A reader, and a record that is being filled. -/
structure RecAt (W : World) (b br : Nat) (t : TypeId) (s : ByteArray) (q e : Int) (cs : Array Value) (w : World) : Prop where
  rd : Box w b t (rdC s q e)
  bx : Box w br 85 cs
  off : Off (· = b) W w
  lt : b < W.heap.size
  new : W.heap.size < br
  rs : Box w W.heap.size 85 zeroC
theorem RecAt.moved {W w w' : World} {b br : Nat} {t : TypeId} {s : ByteArray} {q e q' e' : Int} {cs : Array Value} (h : RecAt W b br t s q e cs w) (hb : Box w' b t (rdC s q' e')) (ho : Off (· = b) w w') : RecAt W b br t s q' e' cs w' :=
  ⟨hb, h.bx.off ho (by have := h.lt; have := h.new; omega), h.off.trans ho (fun _ _ x => x), h.lt, h.new, h.rs.off ho (by have := h.lt; omega)⟩
theorem RecAt.set {W w : World} {b br : Nat} {t : TypeId} {s : ByteArray} {q e : Int} {cs : Array Value} (h : RecAt W b br t s q e cs w) (i : Nat) (u : Value) : RecAt W b br t s q e (cs.setIfInBounds i u) (w.setCell ⟨br, i, none⟩ u) :=
  ⟨h.rd.far (by have := h.lt; have := h.new; show b ≠ br; omega) _, h.bx.set i u, h.off.set (.inr (Nat.le_of_lt h.new)) _, h.lt, h.new, h.rs.far (by have := h.new; show W.heap.size ≠ br; omega) _⟩
theorem RecAt.later {W w w' : World} {b br : Nat} {t : TypeId} {s : ByteArray} {q e : Int} {cs : Array Value} (h : RecAt W b br t s q e cs w) (hb : Below w.heap.size w w') : RecAt W b br t s q e cs w' :=
  ⟨h.rd.later hb, h.bx.later hb, h.off.later hb, h.lt, h.new, h.rs.later hb⟩
theorem rdRecP_in (s : ByteArray) (p : Int) {w : World} {A : Option Addr} {c : Nat} (h : HIn w A (rdHeads s p).1) : RIn w (rdRecP s p) A c :=
  ⟨h, by have := rdHeads_len s p; show (rdHeads s p).1.length ≤ _; omega, by have := rdT_size s (rdMark s p).2.1 (rdMark s p).2.2; show (rdT s 1000 _ _).1.size ≤ _; omega,
    by have := rdT_size s (rdKey s p).2.1 (rdKey s p).2.2; show (rdT s 1000 _ _).1.size ≤ _; omega, fun x hx => by have := rdH_each s _ _ _ x hx; omega⟩
theorem own_base {w : World} {base B t size n : Nat} {v : Value} {xs : List Value} (h : w.ownsRow base t size v n xs) (hB : B ≤ base) : w.ownsRow B t size v n xs := by
  refine ⟨h.1, ?_⟩
  rcases h.2 with h0 | ⟨g, cap, cur, hv, hb, hr⟩
  · exact .inl h0
  · exact .inr ⟨g, cap, cur, hv, Nat.le_trans hB hb, hr⟩
/-- Seven cells of one block stored. -/
def set7 (w : World) (b : Nat) (v0 v1 v2 v3 v4 v5 v6 : Value) : World := ((((((w.setCell ⟨b, 0, none⟩ v0).setCell ⟨b, 1, none⟩ v1).setCell ⟨b, 2, none⟩ v2).setCell ⟨b, 3, none⟩ v3).setCell ⟨b, 4, none⟩ v4).setCell ⟨b, 5, none⟩ v5).setCell ⟨b, 6, none⟩ v6
theorem set7_box {w : World} {b t : Nat} {z0 z1 z2 z3 z4 z5 z6 : Value} (h : Box w b t #[z0, z1, z2, z3, z4, z5, z6]) (v0 v1 v2 v3 v4 v5 v6 : Value) : Box (set7 w b v0 v1 v2 v3 v4 v5 v6) b t #[v0, v1, v2, v3, v4, v5, v6] := by
  unfold set7
  have h0 : Box _ b t #[v0, z1, z2, z3, z4, z5, z6] := h.set 0 v0
  have h1 : Box _ b t #[v0, v1, z2, z3, z4, z5, z6] := h0.set 1 v1
  have h2 : Box _ b t #[v0, v1, v2, z3, z4, z5, z6] := h1.set 2 v2
  have h3 : Box _ b t #[v0, v1, v2, v3, z4, z5, z6] := h2.set 3 v3
  have h4 : Box _ b t #[v0, v1, v2, v3, v4, z5, z6] := h3.set 4 v4
  have h5 : Box _ b t #[v0, v1, v2, v3, v4, v5, z6] := h4.set 5 v5
  have h6 : Box _ b t #[v0, v1, v2, v3, v4, v5, v6] := h5.set 6 v6
  exact h6
theorem set7_off (w : World) (b : Nat) (v0 v1 v2 v3 v4 v5 v6 : Value) : Off (· = b) w (set7 w b v0 v1 v2 v3 v4 v5 v6) := by
  unfold set7
  have h0 := Off.refl (· = b) w
  have h1 := h0.set (p := ⟨b, 0, none⟩) (.inl rfl) v0
  have h2 := h1.set (p := ⟨b, 1, none⟩) (.inl rfl) v1
  have h3 := h2.set (p := ⟨b, 2, none⟩) (.inl rfl) v2
  have h4 := h3.set (p := ⟨b, 3, none⟩) (.inl rfl) v3
  have h5 := h4.set (p := ⟨b, 4, none⟩) (.inl rfl) v4
  have h6 := h5.set (p := ⟨b, 5, none⟩) (.inl rfl) v5
  have h7 := h6.set (p := ⟨b, 6, none⟩) (.inl rfl) v6
  exact h7
theorem rec_result {w : World} {g : Nat} {v0 v1 v2 v3 v4 v5 v6 : Value} (h : Box w g 85 #[v0, v1, v2, v3, v4, v5, v6]) (tmps : Array Value) (ht : (tmps[2]?).getD undef = .pointer (some ⟨g, 0, none⟩)) :
    (results Tryz.f142 tmps).run Tryz.prog w = .ok (.agg #[v0, v1, v2, v3, v4, v5, v6]) w := by
  have c0 := (h.cell 0).trans (show _ = some v0 from rfl)
  have c1 := (h.cell 1).trans (show _ = some v1 from rfl)
  have c2 := (h.cell 2).trans (show _ = some v2 from rfl)
  have c3 := (h.cell 3).trans (show _ = some v3 from rfl)
  have c4 := (h.cell 4).trans (show _ = some v4 from rfl)
  have c5 := (h.cell 5).trans (show _ = some v5 from rfl)
  have c6 := (h.cell 6).trans (show _ = some v6 from rfl)
  simp [results, Tryz.results142, go_sem, ht, c0, c1, c2, c3, c4, c5, c6]
/-- A store into one block of another type. -/
theorem own_set {w : World} {base n size : Nat} {v : Value} {xs : List Value} {b t t' : Nat} {cs : Array Value} (h : w.ownsRow base t size v n xs) (hb : Box w b t' cs) (hne : t' ≠ t) (i : Nat) (u : Value) :
    (w.setCell ⟨b, i, none⟩ u).ownsRow base t size v n xs ∧ Box (w.setCell ⟨b, i, none⟩ u) b t' (cs.setIfInBounds i u) :=
  ⟨own_off h (Off.one w ⟨b, i, none⟩ u) (own_ne h hb hne), hb.set i u⟩
theorem own_zero {w : World} {base n : Nat} {v : Value} {xs : List Value} {b : Nat} {cs : Array Value} {u0 u1 u2 u3 u4 u5 u6 : Value} (h : w.ownsRow base 87 2 v n xs) (hb : Box w b 85 cs) :
    (((((((w.setCell ⟨b, 0, none⟩ u0).setCell ⟨b, 1, none⟩ u1).setCell ⟨b, 2, none⟩ u2).setCell ⟨b, 3, none⟩ u3).setCell ⟨b, 4, none⟩ u4).setCell ⟨b, 5, none⟩ u5).setCell ⟨b, 6, none⟩ u6).ownsRow base 87 2 v n xs := by
  obtain ⟨h, hb⟩ := own_set h hb (by decide) 0 u0
  obtain ⟨h, hb⟩ := own_set h hb (by decide) 1 u1
  obtain ⟨h, hb⟩ := own_set h hb (by decide) 2 u2
  obtain ⟨h, hb⟩ := own_set h hb (by decide) 3 u3
  obtain ⟨h, hb⟩ := own_set h hb (by decide) 4 u4
  obtain ⟨h, hb⟩ := own_set h hb (by decide) 5 u5
  obtain ⟨h, hb⟩ := own_set h hb (by decide) 6 u6
  exact h
def GotRec (W : World) (b : Nat) (s : ByteArray) (r : Rec) (q e : Int) (en : Ending) (w' : World) : Prop :=
  ∃ A c, en = .returned (recV r A c) ∧ w'.ownsRow W.heap.size 87 2 (.slice A r.heads.length c) r.heads.length (headCells r.heads) ∧ Box w' b 190 (rdC s q e) ∧ Off (· = b) W w'
set_option maxHeartbeats 4000000 in
set_option maxRecDepth 100000 in
theorem precord_c (s : ByteArray) (p : Int) (b : Nat) (W : World) (hs : s.size ≤ 1152921504606846976) (h : Box W b 190 (rdC s p 0)) :
    Calls Tryz.prog 142 #[.pointer (some ⟨b, 0, none⟩)] W (GotRec W b s (rdRecP s p) (rdHeads s p).2.1 (lastE s p)) := by
  have n1 : ∀ w, Box w b 190 (rdC s p 0) → Calls _ _ _ w (Moved w b 190 (.int .i64 (rdPlace s p).1) s (rdPlace s p).2.1 (rdPlace s p).2.2) := fun w hx => prdn_c s p 0 b w hs hx
  have n2 : ∀ w, Box w b 190 (rdC s (rdPlace s p).2.1 (rdPlace s p).2.2) → Calls _ _ _ w (Moved w b 190 (.int .i64 (rdTime s p).1) s (rdTime s p).2.1 (rdTime s p).2.2) := fun w hx => prdn_c s _ _ b w hs hx
  have n3 : ∀ w, Box w b 190 (rdC s (rdTime s p).2.1 (rdTime s p).2.2) → Calls _ _ _ w (Moved w b 190 (.int .i64 (rdMark s p).1) s (rdMark s p).2.1 (rdMark s p).2.2) := fun w hx => prdn_c s _ _ b w hs hx
  have n4 : ∀ w, Box w b 190 (rdC s (rdMark s p).2.1 (rdMark s p).2.2) → Calls _ _ _ w (Moved w b 190 (.string (rdKey s p).1) s (rdKey s p).2.1 (rdKey s p).2.2) := fun w hx => prdt_c s _ _ b w hs hx
  have n5 : ∀ w, Box w b 190 (rdC s (rdKey s p).2.1 (rdKey s p).2.2) → Calls _ _ _ w (Moved w b 190 (.string (rdValue s p).1) s (rdValue s p).2.1 (rdValue s p).2.2) := fun w hx => prdt_c s _ _ b w hs hx
  have n6 : ∀ w, Box w b 190 (rdC s (rdValue s p).2.1 (rdValue s p).2.2) → Calls _ _ _ w (GotHeads w b s (rdHeads s p).1 (rdHeads s p).2.1 (rdHeads s p).2.2) := fun w hx => pheads_c s _ _ b w hs hx
  have hin := Lib.hid (fun w A c h => @rdRecP_in s p w A c h)
  have hlast : Hid (lastE s p = dem (rdHeads s p).2.2 (decide ((rdMark s p).1 = marks (bit (rdMark s p).1 1) (bit (rdMark s p).1 2)) && okRec (rdRecP s p))) := Lib.hid rfl
  have hrec : Hid (rdRecP s p = ⟨(rdPlace s p).1, (rdTime s p).1, bit (rdMark s p).1 1, (rdKey s p).1, bit (rdMark s p).1 2, (rdValue s p).1, (rdHeads s p).1⟩) := Lib.hid rfl
  generalize lastE s p = le at *
  generalize rdRecP s p = R at *
  generalize (rdPlace s p).1 = a1 at *
  generalize (rdPlace s p).2.1 = p1 at *
  generalize (rdPlace s p).2.2 = e1 at *
  generalize (rdTime s p).1 = a2 at *
  generalize (rdTime s p).2.1 = p2 at *
  generalize (rdTime s p).2.2 = e2 at *
  generalize (rdMark s p).1 = a3 at *
  generalize (rdMark s p).2.1 = p3 at *
  generalize (rdMark s p).2.2 = e3 at *
  generalize (rdKey s p).1 = a4 at *
  generalize (rdKey s p).2.1 = p4 at *
  generalize (rdKey s p).2.2 = e4 at *
  generalize (rdValue s p).1 = a5 at *
  generalize (rdValue s p).2.1 = p5 at *
  generalize (rdValue s p).2.2 = e5 at *
  generalize (rdHeads s p).1 = hs0 at *
  generalize (rdHeads s p).2.1 = p6 at *
  generalize (rdHeads s p).2.2 = e6 at *
  obtain ⟨b0, hb0⟩ : ∃ b0, (bits BinOp.and IntKind.i64 a3 1 != 0) = b0 := ⟨_, rfl⟩
  obtain ⟨b1, hb1⟩ : ∃ b1, (bits BinOp.and IntKind.i64 a3 2 != 0) = b1 := ⟨_, rfl⟩
  rw [show bit a3 1 = b0 from hb0, show bit a3 2 = b1 from hb1] at hlast hrec
  have HB := Lib.hid h
  have hblt := h.lt
  clear h
  go_enter Tryz.func142, Tryz.ntmps142
  have H0 : Hid (RecAt W b (W.heap.size + 1) 190 s p 0 zeroC _) := Lib.hid ⟨(HB.out.alloc (.cells zeroC 85)).alloc (.cells zeroC 85), by have h := Box.new (W.alloc (.cells zeroC 85)) 85 zeroC; simpa using h, ((Off.refl (· = b) W).alloc _).alloc _, hblt, Nat.lt_succ_self _, (Box.new W 85 zeroC).alloc _⟩
  unfold zeroC at H0
  go_wp2_with fail
  (with_reducible refine (n1 _ H0.out.rd).mono ?_)
  rintro en w1 ⟨rfl, hx, ho⟩
  have M1 : Hid (RecAt W b (W.heap.size + 1) 190 s p1 e1 #[.int .i64 0, .int .i64 0, .bool false, .string ⟨#[]⟩, .bool false, .string ⟨#[]⟩, .slice none 0 0] _) := Lib.hid (H0.out.moved hx ho)
  clear hx ho H0 n1
  have y := (M1.out.bx.cell 0).trans (show _ = some (Value.int .i64 0) from rfl)
  have z := M1.out.bx.frozen 0
  have H1 : Hid (RecAt W b (W.heap.size + 1) 190 s p1 e1 #[.int .i64 a1, .int .i64 0, .bool false, .string ⟨#[]⟩, .bool false, .string ⟨#[]⟩, .slice none 0 0] _) := Lib.hid (M1.out.set 0 (.int .i64 a1))
  go_wp2_with fail
  clear y z M1
  (with_reducible refine (n2 _ H1.out.rd).mono ?_)
  rintro en w2 ⟨rfl, hx, ho⟩
  have M2 : Hid (RecAt W b (W.heap.size + 1) 190 s p2 e2 #[.int .i64 a1, .int .i64 0, .bool false, .string ⟨#[]⟩, .bool false, .string ⟨#[]⟩, .slice none 0 0] _) := Lib.hid (H1.out.moved hx ho)
  clear hx ho H1 n2
  have y := (M2.out.bx.cell 1).trans (show _ = some (Value.int .i64 0) from rfl)
  have z := M2.out.bx.frozen 1
  have H2 : Hid (RecAt W b (W.heap.size + 1) 190 s p2 e2 #[.int .i64 a1, .int .i64 a2, .bool false, .string ⟨#[]⟩, .bool false, .string ⟨#[]⟩, .slice none 0 0] _) := Lib.hid (M2.out.set 1 (.int .i64 a2))
  go_wp2_with fail
  clear y z M2
  (with_reducible refine (n3 _ H2.out.rd).mono ?_)
  rintro en w3 ⟨rfl, hx, ho⟩
  have M3 : Hid (RecAt W b (W.heap.size + 1) 190 s p3 e3 #[.int .i64 a1, .int .i64 a2, .bool false, .string ⟨#[]⟩, .bool false, .string ⟨#[]⟩, .slice none 0 0] _) := Lib.hid (H2.out.moved hx ho)
  clear hx ho H2 n3
  have y2 := (M3.out.bx.cell 2).trans (show _ = some (Value.bool false) from rfl)
  have z2 := M3.out.bx.frozen 2
  have y4 := (M3.out.bx.cell 4).trans (show _ = some (Value.bool false) from rfl)
  have z4 := M3.out.bx.frozen 4
  have y5 : (w3.setCell ⟨W.heap.size + 1, 2, none⟩ (.bool b0)).cell? ⟨W.heap.size + 1, 4, none⟩ = some (.bool false) := ((M3.out.set 2 (.bool b0)).bx.cell 4).trans rfl
  have z5 : (w3.setCell ⟨W.heap.size + 1, 2, none⟩ (.bool b0)).frozen? ⟨W.heap.size + 1, 4, none⟩ = false := (M3.out.set 2 (.bool b0)).bx.frozen 4
  have H3 : Hid (RecAt W b (W.heap.size + 1) 190 s p3 e3 #[.int .i64 a1, .int .i64 a2, .bool b0, .string ⟨#[]⟩, .bool b1, .string ⟨#[]⟩, .slice none 0 0] _) := Lib.hid ((M3.out.set 2 (.bool b0)).set 4 (.bool b1))
  go_wp2_with fail
  clear y2 z2 y4 z4 y5 z5 M3
  (with_reducible refine (n4 _ H3.out.rd).mono ?_)
  rintro en w4 ⟨rfl, hx, ho⟩
  have M4 : Hid (RecAt W b (W.heap.size + 1) 190 s p4 e4 #[.int .i64 a1, .int .i64 a2, .bool b0, .string ⟨#[]⟩, .bool b1, .string ⟨#[]⟩, .slice none 0 0] _) := Lib.hid (H3.out.moved hx ho)
  clear hx ho H3 n4
  have y := (M4.out.bx.cell 3).trans (show _ = some (Value.string ⟨#[]⟩) from rfl)
  have z := M4.out.bx.frozen 3
  have H4 : Hid (RecAt W b (W.heap.size + 1) 190 s p4 e4 #[.int .i64 a1, .int .i64 a2, .bool b0, .string a4, .bool b1, .string ⟨#[]⟩, .slice none 0 0] _) := Lib.hid (M4.out.set 3 (.string a4))
  go_wp2_with fail
  clear y z M4
  (with_reducible refine (n5 _ H4.out.rd).mono ?_)
  rintro en w5 ⟨rfl, hx, ho⟩
  have M5 : Hid (RecAt W b (W.heap.size + 1) 190 s p5 e5 #[.int .i64 a1, .int .i64 a2, .bool b0, .string a4, .bool b1, .string ⟨#[]⟩, .slice none 0 0] _) := Lib.hid (H4.out.moved hx ho)
  clear hx ho H4 n5
  have y := (M5.out.bx.cell 5).trans (show _ = some (Value.string ⟨#[]⟩) from rfl)
  have z := M5.out.bx.frozen 5
  have H5 : Hid (RecAt W b (W.heap.size + 1) 190 s p5 e5 #[.int .i64 a1, .int .i64 a2, .bool b0, .string a4, .bool b1, .string a5, .slice none 0 0] _) := Lib.hid (M5.out.set 5 (.string a5))
  go_wp2_with fail
  clear y z M5
  (with_reducible refine (n6 _ H5.out.rd).mono ?_)
  rintro en w6 ⟨A, c, rfl, hown, hx, ho⟩
  have HI := Lib.hid (own_base hown H5.out.off.size)
  clear hown
  have M6 : Hid (RecAt W b (W.heap.size + 1) 190 s p6 e6 #[.int .i64 a1, .int .i64 a2, .bool b0, .string a4, .bool b1, .string a5, .slice none 0 0] _) := Lib.hid (H5.out.moved hx ho)
  clear hx ho H5 n6
  have y := (M6.out.bx.cell 6).trans (show _ = some (Value.slice none 0 0) from rfl)
  have z := M6.out.bx.frozen 6
  have H6 : Hid (RecAt W b (W.heap.size + 1) 190 s p6 e6 #[.int .i64 a1, .int .i64 a2, .bool b0, .string a4, .bool b1, .string a5, .slice A hs0.length c] _) := Lib.hid (M6.out.set 6 (.slice A hs0.length c))
  have y0 : (w6.setCell ⟨W.heap.size + 1, 6, none⟩ (.slice A hs0.length c)).cell? ⟨W.heap.size + 1, 0, none⟩ = some (.int .i64 a1) := (H6.out.bx.cell 0).trans rfl
  have y1 : (w6.setCell ⟨W.heap.size + 1, 6, none⟩ (.slice A hs0.length c)).cell? ⟨W.heap.size + 1, 1, none⟩ = some (.int .i64 a2) := (H6.out.bx.cell 1).trans rfl
  have y2 : (w6.setCell ⟨W.heap.size + 1, 6, none⟩ (.slice A hs0.length c)).cell? ⟨W.heap.size + 1, 2, none⟩ = some (.bool b0) := (H6.out.bx.cell 2).trans rfl
  have y3 : (w6.setCell ⟨W.heap.size + 1, 6, none⟩ (.slice A hs0.length c)).cell? ⟨W.heap.size + 1, 3, none⟩ = some (.string a4) := (H6.out.bx.cell 3).trans rfl
  have y4 : (w6.setCell ⟨W.heap.size + 1, 6, none⟩ (.slice A hs0.length c)).cell? ⟨W.heap.size + 1, 4, none⟩ = some (.bool b1) := (H6.out.bx.cell 4).trans rfl
  have y5 : (w6.setCell ⟨W.heap.size + 1, 6, none⟩ (.slice A hs0.length c)).cell? ⟨W.heap.size + 1, 5, none⟩ = some (.string a5) := (H6.out.bx.cell 5).trans rfl
  have y6 : (w6.setCell ⟨W.heap.size + 1, 6, none⟩ (.slice A hs0.length c)).cell? ⟨W.heap.size + 1, 6, none⟩ = some (.slice A hs0.length c) := (H6.out.bx.cell 6).trans rfl
  have hmk := fun w => marks_c R A c w
  have hmb := fun w (hx : HIn w A hs0) => mayBe_c R A c w (hin.out w A c hx)
  have hR := hrec.out
  have HOK : Hid (okRec R = okRec R) := Lib.hid rfl
  rw [hR] at hmk
  generalize hok : okRec R = ok at *
  rw [hR] at hmb
  simp only at hmk hmb
  have HR := Lib.hid hR
  clear hR HOK hrec hok
  unfold recV recC at hmk hmb
  simp only at hmk hmb
  generalize marks b0 b1 = mm at *
  go_wp2_with fail
  (with_reducible refine (hmk _).mono ?_)
  rintro en v1 ⟨rfl, hx⟩
  have H7 := Lib.hid (H6.out.later hx)
  have HI6 := own_off HI.out (Off.one w6 ⟨W.heap.size + 1, 6, none⟩ (.slice A hs0.length c)) (own_ne HI.out M6.out.bx (by decide))
  have HI7 := Lib.hid (own_below HI6 hx)
  clear hx HI6
  have y0b : v1.cell? ⟨W.heap.size + 1, 0, none⟩ = some (.int .i64 a1) := (H7.out.bx.cell 0).trans rfl
  have y1b : v1.cell? ⟨W.heap.size + 1, 1, none⟩ = some (.int .i64 a2) := (H7.out.bx.cell 1).trans rfl
  have y2b : v1.cell? ⟨W.heap.size + 1, 2, none⟩ = some (.bool b0) := (H7.out.bx.cell 2).trans rfl
  have y3b : v1.cell? ⟨W.heap.size + 1, 3, none⟩ = some (.string a4) := (H7.out.bx.cell 3).trans rfl
  have y4b : v1.cell? ⟨W.heap.size + 1, 4, none⟩ = some (.bool b1) := (H7.out.bx.cell 4).trans rfl
  have y5b : v1.cell? ⟨W.heap.size + 1, 5, none⟩ = some (.string a5) := (H7.out.bx.cell 5).trans rfl
  have y6b : v1.cell? ⟨W.heap.size + 1, 6, none⟩ = some (.slice A hs0.length c) := (H7.out.bx.cell 6).trans rfl
  by_cases hmm : a3 = mm
  · have e1' : (a3 == mm) = true := by rw [beq_iff_eq]; exact hmm
    rw [decide_eq_true hmm] at hlast
    have HL : Hid (dem e6 ok = le) := Lib.hid (by rw [hlast.out]; rfl)
    clear hmm hlast
    go_wp2_with fail
    (with_reducible refine (hmb _ (hin_of_own HI7.out)).mono ?_)
    rintro en v2 ⟨rfl, hx⟩
    have H8 := Lib.hid (H7.out.later hx)
    have HI8 := Lib.hid (own_below HI7.out hx)
    clear hx H7 HI7
    have hdm := fun w hx => pdem_c s p6 e6 ok b w hx
    rw [HL.out] at hdm
    go_wp2_with fail
    (with_reducible refine (hdm _ H8.out.rd).mono ?_)
    rintro en v3 ⟨rfl, hx, ho⟩
    have H9 := Lib.hid (H8.out.moved hx ho)
    have HI9 := Lib.hid (own_off HI8.out ho (fun k hk e => own_ne HI8.out H8.out.rd (by decide) k hk e))
    clear hx ho
    have y0c : v3.cell? ⟨W.heap.size + 1, 0, none⟩ = some (.int .i64 a1) := (H9.out.bx.cell 0).trans rfl
    have y1c : v3.cell? ⟨W.heap.size + 1, 1, none⟩ = some (.int .i64 a2) := (H9.out.bx.cell 1).trans rfl
    have y2c : v3.cell? ⟨W.heap.size + 1, 2, none⟩ = some (.bool b0) := (H9.out.bx.cell 2).trans rfl
    have y3c : v3.cell? ⟨W.heap.size + 1, 3, none⟩ = some (.string a4) := (H9.out.bx.cell 3).trans rfl
    have y4c : v3.cell? ⟨W.heap.size + 1, 4, none⟩ = some (.bool b1) := (H9.out.bx.cell 4).trans rfl
    have y5c : v3.cell? ⟨W.heap.size + 1, 5, none⟩ = some (.string a5) := (H9.out.bx.cell 5).trans rfl
    have y6c : v3.cell? ⟨W.heap.size + 1, 6, none⟩ = some (.slice A hs0.length c) := (H9.out.bx.cell 6).trans rfl
    have r0 : v3.cell? ⟨W.heap.size, 0, none⟩ = some (.int .i64 0) := (H9.out.rs.cell 0).trans rfl
    have f0 := H9.out.rs.frozen 0
    have r1 : v3.cell? ⟨W.heap.size, 1, none⟩ = some (.int .i64 0) := (H9.out.rs.cell 1).trans rfl
    have f1 := H9.out.rs.frozen 1
    have r2 : v3.cell? ⟨W.heap.size, 2, none⟩ = some (.bool false) := (H9.out.rs.cell 2).trans rfl
    have f2 := H9.out.rs.frozen 2
    have r3 : v3.cell? ⟨W.heap.size, 3, none⟩ = some (.string ⟨#[]⟩) := (H9.out.rs.cell 3).trans rfl
    have f3 := H9.out.rs.frozen 3
    have r4 : v3.cell? ⟨W.heap.size, 4, none⟩ = some (.bool false) := (H9.out.rs.cell 4).trans rfl
    have f4 := H9.out.rs.frozen 4
    have r5 : v3.cell? ⟨W.heap.size, 5, none⟩ = some (.string ⟨#[]⟩) := (H9.out.rs.cell 5).trans rfl
    have f5 := H9.out.rs.frozen 5
    have r6 : v3.cell? ⟨W.heap.size, 6, none⟩ = some (.slice none 0 0) := (H9.out.rs.cell 6).trans rfl
    have f6 := H9.out.rs.frozen 6
    go_wp2
    clear y0 y1 y2 y3 y4 y5 y6 y0b y1b y2b y3b y4b y5b y6b y0c y1c y2c y3c y4c y5c y6c r0 r1 r2 r3 r4 r5 r6 f0 f1 f2 f3 f4 f5 f6 y z hmb hmk hdm
    have HX := Lib.hid (((((((H9.out.rs.set 0 (.int .i64 a1)).set 1 (.int .i64 a2)).set 2 (.bool b0)).set 3 (.string a4)).set 4 (.bool b1)).set 5 (.string a5)).set 6 (.slice A hs0.length c))
    have HO := Lib.hid (((((((H9.out.off.set (p := ⟨W.heap.size, 0, none⟩) (.inr (Nat.le_refl _)) (.int .i64 a1)).set (p := ⟨W.heap.size, 1, none⟩) (.inr (Nat.le_refl _)) (.int .i64 a2)).set (p := ⟨W.heap.size, 2, none⟩) (.inr (Nat.le_refl _)) (.bool b0)).set (p := ⟨W.heap.size, 3, none⟩) (.inr (Nat.le_refl _)) (.string a4)).set (p := ⟨W.heap.size, 4, none⟩) (.inr (Nat.le_refl _)) (.bool b1)).set (p := ⟨W.heap.size, 5, none⟩) (.inr (Nat.le_refl _)) (.string a5)).set (p := ⟨W.heap.size, 6, none⟩) (.inr (Nat.le_refl _)) (.slice A hs0.length c))
    have HZ := Lib.hid (((((((H9.out.rd.far (p := ⟨W.heap.size, 0, none⟩) (Nat.ne_of_lt hblt) (.int .i64 a1)).far (p := ⟨W.heap.size, 1, none⟩) (Nat.ne_of_lt hblt) (.int .i64 a2)).far (p := ⟨W.heap.size, 2, none⟩) (Nat.ne_of_lt hblt) (.bool b0)).far (p := ⟨W.heap.size, 3, none⟩) (Nat.ne_of_lt hblt) (.string a4)).far (p := ⟨W.heap.size, 4, none⟩) (Nat.ne_of_lt hblt) (.bool b1)).far (p := ⟨W.heap.size, 5, none⟩) (Nat.ne_of_lt hblt) (.string a5)).far (p := ⟨W.heap.size, 6, none⟩) (Nat.ne_of_lt hblt) (.slice A hs0.length c))
    refine bodyPost_ret (v := .agg #[.int .i64 a1, .int .i64 a2, .bool b0, .string a4, .bool b1, .string a5, .slice A hs0.length c]) ?_ rfl ?_
    · exact rec_result HX.out _ rfl
    · exact ⟨A, c, by rw [HR.out]; rfl, by rw [HR.out]; exact own_zero HI9.out H9.out.rs, HZ.out, HO.out⟩
  · have e1' : (a3 == mm) = false := by rw [beq_eq_false_iff_ne]; exact hmm
    rw [decide_eq_false hmm] at hlast
    have HL : Hid (dem e6 false = le) := Lib.hid (by rw [hlast.out]; rfl)
    clear hmm hlast
    have H8 := H7
    have HI8 := HI7
    clear H7 HI7
    have hdm := fun w hx => pdem_c s p6 e6 false b w hx
    rw [HL.out] at hdm
    go_wp2_with fail
    (with_reducible refine (hdm _ H8.out.rd).mono ?_)
    rintro en v3 ⟨rfl, hx, ho⟩
    have H9 := Lib.hid (H8.out.moved hx ho)
    have HI9 := Lib.hid (own_off HI8.out ho (fun k hk e => own_ne HI8.out H8.out.rd (by decide) k hk e))
    clear hx ho
    have y0c : v3.cell? ⟨W.heap.size + 1, 0, none⟩ = some (.int .i64 a1) := (H9.out.bx.cell 0).trans rfl
    have y1c : v3.cell? ⟨W.heap.size + 1, 1, none⟩ = some (.int .i64 a2) := (H9.out.bx.cell 1).trans rfl
    have y2c : v3.cell? ⟨W.heap.size + 1, 2, none⟩ = some (.bool b0) := (H9.out.bx.cell 2).trans rfl
    have y3c : v3.cell? ⟨W.heap.size + 1, 3, none⟩ = some (.string a4) := (H9.out.bx.cell 3).trans rfl
    have y4c : v3.cell? ⟨W.heap.size + 1, 4, none⟩ = some (.bool b1) := (H9.out.bx.cell 4).trans rfl
    have y5c : v3.cell? ⟨W.heap.size + 1, 5, none⟩ = some (.string a5) := (H9.out.bx.cell 5).trans rfl
    have y6c : v3.cell? ⟨W.heap.size + 1, 6, none⟩ = some (.slice A hs0.length c) := (H9.out.bx.cell 6).trans rfl
    have r0 : v3.cell? ⟨W.heap.size, 0, none⟩ = some (.int .i64 0) := (H9.out.rs.cell 0).trans rfl
    have f0 := H9.out.rs.frozen 0
    have r1 : v3.cell? ⟨W.heap.size, 1, none⟩ = some (.int .i64 0) := (H9.out.rs.cell 1).trans rfl
    have f1 := H9.out.rs.frozen 1
    have r2 : v3.cell? ⟨W.heap.size, 2, none⟩ = some (.bool false) := (H9.out.rs.cell 2).trans rfl
    have f2 := H9.out.rs.frozen 2
    have r3 : v3.cell? ⟨W.heap.size, 3, none⟩ = some (.string ⟨#[]⟩) := (H9.out.rs.cell 3).trans rfl
    have f3 := H9.out.rs.frozen 3
    have r4 : v3.cell? ⟨W.heap.size, 4, none⟩ = some (.bool false) := (H9.out.rs.cell 4).trans rfl
    have f4 := H9.out.rs.frozen 4
    have r5 : v3.cell? ⟨W.heap.size, 5, none⟩ = some (.string ⟨#[]⟩) := (H9.out.rs.cell 5).trans rfl
    have f5 := H9.out.rs.frozen 5
    have r6 : v3.cell? ⟨W.heap.size, 6, none⟩ = some (.slice none 0 0) := (H9.out.rs.cell 6).trans rfl
    have f6 := H9.out.rs.frozen 6
    go_wp2
    clear y0 y1 y2 y3 y4 y5 y6 y0b y1b y2b y3b y4b y5b y6b y0c y1c y2c y3c y4c y5c y6c r0 r1 r2 r3 r4 r5 r6 f0 f1 f2 f3 f4 f5 f6 y z hmb hmk hdm
    have HX := Lib.hid (((((((H9.out.rs.set 0 (.int .i64 a1)).set 1 (.int .i64 a2)).set 2 (.bool b0)).set 3 (.string a4)).set 4 (.bool b1)).set 5 (.string a5)).set 6 (.slice A hs0.length c))
    have HO := Lib.hid (((((((H9.out.off.set (p := ⟨W.heap.size, 0, none⟩) (.inr (Nat.le_refl _)) (.int .i64 a1)).set (p := ⟨W.heap.size, 1, none⟩) (.inr (Nat.le_refl _)) (.int .i64 a2)).set (p := ⟨W.heap.size, 2, none⟩) (.inr (Nat.le_refl _)) (.bool b0)).set (p := ⟨W.heap.size, 3, none⟩) (.inr (Nat.le_refl _)) (.string a4)).set (p := ⟨W.heap.size, 4, none⟩) (.inr (Nat.le_refl _)) (.bool b1)).set (p := ⟨W.heap.size, 5, none⟩) (.inr (Nat.le_refl _)) (.string a5)).set (p := ⟨W.heap.size, 6, none⟩) (.inr (Nat.le_refl _)) (.slice A hs0.length c))
    have HZ := Lib.hid (((((((H9.out.rd.far (p := ⟨W.heap.size, 0, none⟩) (Nat.ne_of_lt hblt) (.int .i64 a1)).far (p := ⟨W.heap.size, 1, none⟩) (Nat.ne_of_lt hblt) (.int .i64 a2)).far (p := ⟨W.heap.size, 2, none⟩) (Nat.ne_of_lt hblt) (.bool b0)).far (p := ⟨W.heap.size, 3, none⟩) (Nat.ne_of_lt hblt) (.string a4)).far (p := ⟨W.heap.size, 4, none⟩) (Nat.ne_of_lt hblt) (.bool b1)).far (p := ⟨W.heap.size, 5, none⟩) (Nat.ne_of_lt hblt) (.string a5)).far (p := ⟨W.heap.size, 6, none⟩) (Nat.ne_of_lt hblt) (.slice A hs0.length c))
    refine bodyPost_ret (v := .agg #[.int .i64 a1, .int .i64 a2, .bool b0, .string a4, .bool b1, .string a5, .slice A hs0.length c]) ?_ rfl ?_
    · exact rec_result HX.out _ rfl
    · exact ⟨A, c, by rw [HR.out]; rfl, by rw [HR.out]; exact own_zero HI9.out H9.out.rs, HZ.out, HO.out⟩
end Go.Proofs.YtjnphajkoopkgaaGreatDoor
/- The program's Decode by a contract. -/
namespace Go.Proofs.YtjnphajkoopkgaaGreatDoor
open Go.RowKit
set_option linter.unusedVariables false
/-- What Decode leaves: a record, the place behind it, an error; its headers are new memory. -/
def GotDec (W : World) (r : Rec) (q e : Int) (en : Ending) (w' : World) : Prop :=
  ∃ A c, en = .returned (.tuple #[recV r A c, .int .i64 q, .int .i64 e]) ∧ w'.ownsRow W.heap.size 87 2 (.slice A r.heads.length c) r.heads.length (headCells r.heads) ∧ Below W.heap.size W w'
theorem dec_result {w : World} (g : Nat) {v0 v1 v2 v3 v4 v5 v6 x y : Value} (h : Box w g 85 #[v0, v1, v2, v3, v4, v5, v6]) (tmps : Array Value) (ht : (tmps[4]?).getD undef = .pointer (some ⟨g, 0, none⟩)) (h5 : (tmps[5]?).getD undef = x) (h6 : (tmps[6]?).getD undef = y) :
    (results Tryz.f115 tmps).run Tryz.prog w = .ok (.tuple #[.agg #[v0, v1, v2, v3, v4, v5, v6], x, y]) w := by
  have c0 := (h.cell 0).trans (show _ = some v0 from rfl)
  have c1 := (h.cell 1).trans (show _ = some v1 from rfl)
  have c2 := (h.cell 2).trans (show _ = some v2 from rfl)
  have c3 := (h.cell 3).trans (show _ = some v3 from rfl)
  have c4 := (h.cell 4).trans (show _ = some v4 from rfl)
  have c5 := (h.cell 5).trans (show _ = some v5 from rfl)
  have c6 := (h.cell 6).trans (show _ = some v6 from rfl)
  simp [results, Tryz.results115, go_sem, ht, h5, h6, c0, c1, c2, c3, c4, c5, c6]
set_option maxHeartbeats 4000000 in
set_option maxRecDepth 100000 in
theorem pdec_c (s : ByteArray) (p : Int) (W : World) (hs : s.size ≤ 1152921504606846976) :
    Calls Tryz.prog 115 #[.string s, .int .i64 p] W (GotDec W (decR s p).1 (decR s p).2.1 (decR s p).2.2) := by
  have hr := fun b w hx => precord_c s p b w hs hx
  have hd := dec_last s p
  generalize rdRecP s p = R at *
  generalize (rdHeads s p).2.1 = q at *
  generalize lastE s p = le at *
  generalize decR s p = D at *
  by_cases hle : le = 0
  · subst hle
    rw [if_pos rfl] at hd
    have HD := Lib.hid hd
    clear hd
    go_enter Tryz.func115, Tryz.ntmps115
    go_wp2_with fail
    have HB0 := Lib.hid (show Box ((W.alloc (.cells #[.int .i64 0, .int .i64 0, .bool false, .string ⟨#[]⟩, .bool false, .string ⟨#[]⟩, .slice none 0 0] 85)).alloc (.cells (rdC s p 0) 190)) (W.heap.size + 1) 190 (rdC s p 0) by
      have h := Box.new (W.alloc (.cells #[.int .i64 0, .int .i64 0, .bool false, .string ⟨#[]⟩, .bool false, .string ⟨#[]⟩, .slice none 0 0] 85)) 190 (rdC s p 0)
      simpa using h)
    unfold rdC at HB0
    (with_reducible refine (hr _ _ HB0.out).mono ?_)
    rintro en w1 ⟨A, c, rfl, hh, hb, ho⟩
    have HH := Lib.hid (own_base hh (by simp : W.heap.size + 1 ≤ _))
    have HB1 := Lib.hid hb
    have HO1 := Lib.hid ho
    clear hh hb ho hr
    obtain ⟨place, time, bare, key, gone, value, heads⟩ := R
    unfold recV recC
    simp only at *
    have c2 := (HB1.out.alloc (.cells #[.int .i64 place, .int .i64 time, .bool bare, .string key, .bool gone, .string value, .slice A heads.length c] 85)).rd0
    obtain ⟨d0, d1, d2, _, _⟩ := c2
    have HR1 := Lib.hid ((((Box.new W 85 #[.int .i64 0, .int .i64 0, .bool false, .string ⟨#[]⟩, .bool false, .string ⟨#[]⟩, .slice none 0 0]).alloc (.cells #[.string s, .int .i64 p, .int .i64 0] 190)).off HO1.out (Nat.ne_of_lt (Nat.lt_succ_self _))).alloc (.cells #[.int .i64 place, .int .i64 time, .bool bare, .string key, .bool gone, .string value, .slice A heads.length c] 85))
    have r0 : (w1.alloc (.cells #[.int .i64 place, .int .i64 time, .bool bare, .string key, .bool gone, .string value, .slice A heads.length c] 85)).cell? ⟨W.heap.size, 0, none⟩ = some (.int .i64 0) := (HR1.out.cell 0).trans rfl
    have f0 := HR1.out.frozen 0
    have r1 : (w1.alloc (.cells #[.int .i64 place, .int .i64 time, .bool bare, .string key, .bool gone, .string value, .slice A heads.length c] 85)).cell? ⟨W.heap.size, 1, none⟩ = some (.int .i64 0) := (HR1.out.cell 1).trans rfl
    have f1 := HR1.out.frozen 1
    have r2 : (w1.alloc (.cells #[.int .i64 place, .int .i64 time, .bool bare, .string key, .bool gone, .string value, .slice A heads.length c] 85)).cell? ⟨W.heap.size, 2, none⟩ = some (.bool false) := (HR1.out.cell 2).trans rfl
    have f2 := HR1.out.frozen 2
    have r3 : (w1.alloc (.cells #[.int .i64 place, .int .i64 time, .bool bare, .string key, .bool gone, .string value, .slice A heads.length c] 85)).cell? ⟨W.heap.size, 3, none⟩ = some (.string ⟨#[]⟩) := (HR1.out.cell 3).trans rfl
    have f3 := HR1.out.frozen 3
    have r4 : (w1.alloc (.cells #[.int .i64 place, .int .i64 time, .bool bare, .string key, .bool gone, .string value, .slice A heads.length c] 85)).cell? ⟨W.heap.size, 4, none⟩ = some (.bool false) := (HR1.out.cell 4).trans rfl
    have f4 := HR1.out.frozen 4
    have r5 : (w1.alloc (.cells #[.int .i64 place, .int .i64 time, .bool bare, .string key, .bool gone, .string value, .slice A heads.length c] 85)).cell? ⟨W.heap.size, 5, none⟩ = some (.string ⟨#[]⟩) := (HR1.out.cell 5).trans rfl
    have f5 := HR1.out.frozen 5
    have r6 : (w1.alloc (.cells #[.int .i64 place, .int .i64 time, .bool bare, .string key, .bool gone, .string value, .slice A heads.length c] 85)).cell? ⟨W.heap.size, 6, none⟩ = some (.slice none 0 0) := (HR1.out.cell 6).trans rfl
    have f6 := HR1.out.frozen 6
    have hlt : W.heap.size + 1 < w1.heap.size := HB1.out.lt
    have HOW := Lib.hid (own_base (B := W.heap.size) (own_off (own_off (own_below HH.out ((Below.refl _ _).alloc (Nat.le_refl _) (.cells #[.int .i64 place, .int .i64 time, .bool bare, .string key, .bool gone, .string value, .slice A heads.length c] 85))) (set7_off _ W.heap.size (.int .i64 place) (.int .i64 time) (.bool bare) (.string key) (.bool gone) (.string value) (.slice A heads.length c)) (fun k hk e => by have := (HH.out.lt k hk).1; omega)) ((Off.refl (fun _ => False) _).drew) (fun _ _ x => x)) (Nat.le_succ _))
    have HOF : Hid (Off (fun k => k = W.heap.size + 1 ∨ k = W.heap.size) W (w1.alloc (.cells #[.int .i64 place, .int .i64 time, .bool bare, .string key, .bool gone, .string value, .slice A heads.length c] 85))) := Lib.hid ((((((Off.refl (fun k => k = W.heap.size + 1 ∨ k = W.heap.size) W).alloc _).alloc _).trans HO1.out (fun _ _ x => .inl x))).alloc _)
    go_wp2
    go_region
    go_wp2
    refine bodyPost_ret (v := .tuple #[.agg #[.int .i64 place, .int .i64 time, .bool bare, .string key, .bool gone, .string value, .slice A heads.length c], .int .i64 q, .int .i64 0]) ?_ rfl ?_
    · exact dec_result (W.heap.size) ((set7_box HR1.out _ _ _ _ _ _ _).drew) _ rfl rfl rfl
    · refine ⟨A, c, by rw [HD.out]; rfl, by rw [HD.out]; exact HOW.out, ?_⟩
      exact ((HOF.out.trans (set7_off _ W.heap.size _ _ _ _ _ _ _) (fun _ _ x => .inr x)).drew).none (fun k hk => by rcases hk with rfl | rfl <;> omega)
  · rw [if_neg hle] at hd
    have HD := Lib.hid hd
    have e1' : (le == 0) = false := by rw [beq_eq_false_iff_ne]; exact hle
    have e2' : (le != 0) = true := by simpa using hle
    clear hd hle
    go_enter Tryz.func115, Tryz.ntmps115
    go_wp2_with fail
    have HB0 := Lib.hid (show Box ((W.alloc (.cells #[.int .i64 0, .int .i64 0, .bool false, .string ⟨#[]⟩, .bool false, .string ⟨#[]⟩, .slice none 0 0] 85)).alloc (.cells (rdC s p 0) 190)) (W.heap.size + 1) 190 (rdC s p 0) by
      have h := Box.new (W.alloc (.cells #[.int .i64 0, .int .i64 0, .bool false, .string ⟨#[]⟩, .bool false, .string ⟨#[]⟩, .slice none 0 0] 85)) 190 (rdC s p 0)
      simpa using h)
    unfold rdC at HB0
    (with_reducible refine (hr _ _ HB0.out).mono ?_)
    rintro en w1 ⟨A, c, rfl, hh, hb, ho⟩
    have HH := Lib.hid (own_base hh (by simp : W.heap.size + 1 ≤ _))
    have HB1 := Lib.hid hb
    have HO1 := Lib.hid ho
    clear hh hb ho hr
    obtain ⟨place, time, bare, key, gone, value, heads⟩ := R
    unfold recV recC
    simp only at *
    have c2 := (HB1.out.alloc (.cells #[.int .i64 place, .int .i64 time, .bool bare, .string key, .bool gone, .string value, .slice A heads.length c] 85)).rd0
    obtain ⟨d0, d1, d2, _, _⟩ := c2
    have HR1 := Lib.hid ((((Box.new W 85 #[.int .i64 0, .int .i64 0, .bool false, .string ⟨#[]⟩, .bool false, .string ⟨#[]⟩, .slice none 0 0]).alloc (.cells #[.string s, .int .i64 p, .int .i64 0] 190)).off HO1.out (Nat.ne_of_lt (Nat.lt_succ_self _))).alloc (.cells #[.int .i64 place, .int .i64 time, .bool bare, .string key, .bool gone, .string value, .slice A heads.length c] 85))
    have r0 : (w1.alloc (.cells #[.int .i64 place, .int .i64 time, .bool bare, .string key, .bool gone, .string value, .slice A heads.length c] 85)).cell? ⟨W.heap.size, 0, none⟩ = some (.int .i64 0) := (HR1.out.cell 0).trans rfl
    have f0 := HR1.out.frozen 0
    have r1 : (w1.alloc (.cells #[.int .i64 place, .int .i64 time, .bool bare, .string key, .bool gone, .string value, .slice A heads.length c] 85)).cell? ⟨W.heap.size, 1, none⟩ = some (.int .i64 0) := (HR1.out.cell 1).trans rfl
    have f1 := HR1.out.frozen 1
    have r2 : (w1.alloc (.cells #[.int .i64 place, .int .i64 time, .bool bare, .string key, .bool gone, .string value, .slice A heads.length c] 85)).cell? ⟨W.heap.size, 2, none⟩ = some (.bool false) := (HR1.out.cell 2).trans rfl
    have f2 := HR1.out.frozen 2
    have r3 : (w1.alloc (.cells #[.int .i64 place, .int .i64 time, .bool bare, .string key, .bool gone, .string value, .slice A heads.length c] 85)).cell? ⟨W.heap.size, 3, none⟩ = some (.string ⟨#[]⟩) := (HR1.out.cell 3).trans rfl
    have f3 := HR1.out.frozen 3
    have r4 : (w1.alloc (.cells #[.int .i64 place, .int .i64 time, .bool bare, .string key, .bool gone, .string value, .slice A heads.length c] 85)).cell? ⟨W.heap.size, 4, none⟩ = some (.bool false) := (HR1.out.cell 4).trans rfl
    have f4 := HR1.out.frozen 4
    have r5 : (w1.alloc (.cells #[.int .i64 place, .int .i64 time, .bool bare, .string key, .bool gone, .string value, .slice A heads.length c] 85)).cell? ⟨W.heap.size, 5, none⟩ = some (.string ⟨#[]⟩) := (HR1.out.cell 5).trans rfl
    have f5 := HR1.out.frozen 5
    have r6 : (w1.alloc (.cells #[.int .i64 place, .int .i64 time, .bool bare, .string key, .bool gone, .string value, .slice A heads.length c] 85)).cell? ⟨W.heap.size, 6, none⟩ = some (.slice none 0 0) := (HR1.out.cell 6).trans rfl
    have f6 := HR1.out.frozen 6
    have hlt : W.heap.size + 1 < w1.heap.size := HB1.out.lt
    have HOF : Hid (Off (fun k => k = W.heap.size + 1 ∨ k = W.heap.size) W (w1.alloc (.cells #[.int .i64 place, .int .i64 time, .bool bare, .string key, .bool gone, .string value, .slice A heads.length c] 85))) := Lib.hid ((((((Off.refl (fun k => k = W.heap.size + 1 ∨ k = W.heap.size) W).alloc _).alloc _).trans HO1.out (fun _ _ x => .inl x))).alloc _)
    go_wp2
    go_region
    go_wp2
    refine bodyPost_ret (v := .tuple #[.agg #[.int .i64 0, .int .i64 0, .bool false, .string ⟨#[]⟩, .bool false, .string ⟨#[]⟩, .slice none 0 0], .int .i64 0, .int .i64 le]) ?_ rfl ?_
    · exact dec_result (W.heap.size) ((set7_box HR1.out _ _ _ _ _ _ _).drew) _ rfl rfl rfl
    · refine ⟨none, 0, by rw [HD.out]; rfl, by rw [HD.out]; exact World.ownsRow_nil _ _ _ _, ?_⟩
      exact ((HOF.out.trans (set7_off _ W.heap.size _ _ _ _ _ _ _) (fun _ _ x => .inr x)).drew).none (fun k hk => by rcases hk with rfl | rfl <;> omega)
end Go.Proofs.YtjnphajkoopkgaaGreatDoor
