/- expr: the document's Same, at two readings of one tree: true; by a contract. -/
import Derived.Test.YtneholfghffpfaaExBase
import Derived.LoopTactic
import Derived.IntWalk
namespace Go.Proofs.Ytneholfghffpfaa
open Go.RowKit
set_option linter.unusedVariables false
structure SmB (W : World) (t : Tr) (A B : Option Addr) (c e : Nat) (w : World) : Prop where
  one : Box w W.heap.size 24 (exC t A c)
  two : Box w (W.heap.size + 1) 24 (exC t B e)
  bel : Below W.heap.size W w
theorem SmB.start (W : World) (t : Tr) (A B : Option Addr) (c e : Nat) : SmB W t A B c e ((W.alloc (.cells (exC t A c) 24)).alloc (.cells (exC t B e) 24)) :=
  ⟨(Box.new _ _ _).alloc _, by have h := Box.new (W.alloc (.cells (exC t A c) 24)) 24 (exC t B e); simpa using h, ((Below.refl _ _).alloc (Nat.le_refl _) _).alloc (by simp) _⟩
theorem SmB.later {W w w' : World} {t : Tr} {A B : Option Addr} {c e : Nat} (h : SmB W t A B c e w) (hb : Below w.heap.size w w') : SmB W t A B c e w' := ⟨h.one.later hb, h.two.later hb, h.bel.trans (hb.mono h.bel.size)⟩
theorem SmB.cells {W w : World} {t : Tr} {A B : Option Addr} {c e : Nat} (h : SmB W t A B c e w) :
    (w.cell? ⟨W.heap.size, 0, none⟩ = some (.int .i64 t.op) ∧ w.cell? ⟨W.heap.size, 1, none⟩ = some (.string t.name) ∧ w.cell? ⟨W.heap.size, 2, none⟩ = some (.string t.value) ∧ w.cell? ⟨W.heap.size, 3, none⟩ = some (.slice A t.kids.length c)) ∧
    w.cell? ⟨W.heap.size + 1, 0, none⟩ = some (.int .i64 t.op) ∧ w.cell? ⟨W.heap.size + 1, 1, none⟩ = some (.string t.name) ∧ w.cell? ⟨W.heap.size + 1, 2, none⟩ = some (.string t.value) ∧ w.cell? ⟨W.heap.size + 1, 3, none⟩ = some (.slice B t.kids.length e) :=
  ⟨⟨h.one.cell 0, h.one.cell 1, h.one.cell 2, h.one.cell 3⟩, h.two.cell 0, h.two.cell 1, h.two.cell 2, h.two.cell 3⟩
/-- Beside the boxes, the two kids. -/
structure SmP (ok : Nat → Prop) (W : World) (t : Tr) (A B : Option Addr) (c e : Nat) (b b' d : Nat) (k : Tr) (A1 B1 : Option Addr) (w : World) : Prop where
  box : SmB W t A B c e w
  ba : b < w.heap.size
  bb : b' < w.heap.size
  ta : TrAt ok w d A1 k
  tb : TrAt ok w d B1 k
theorem SmP.later {ok : Nat → Prop} {W w w' : World} {t : Tr} {A B : Option Addr} {c e b b' d : Nat} {k : Tr} {A1 B1 : Option Addr} (h : SmP ok W t A B c e b b' d k A1 B1 w) (hb : Below w.heap.size w w') : SmP ok W t A B c e b b' d k A1 B1 w' :=
  ⟨h.box.later hb, Nat.lt_of_lt_of_le h.ba hb.size, Nat.lt_of_lt_of_le h.bb hb.size, h.ta.below hb, h.tb.below hb⟩
set_option maxHeartbeats 4000000 in
set_option maxRecDepth 100000 in
theorem same_in (ok : Nat → Prop) (d n : Nat) (t : Tr) (A B : Option Addr) (c e : Nat) (W : World) (hn : d ≤ n) (hn2 : n ≤ 1000) (hA : TrAt ok W d A t) (hB : TrAt ok W d B t)
    (ih : ∀ d', d = d' + 1 → ∀ (n : Nat) (t : Tr) (A B : Option Addr) (c e : Nat) (W : World), d' ≤ n → n ≤ 1000 → TrAt ok W d' A t → TrAt ok W d' B t →
      Calls Try.prog 37 #[exV t A c, exV t B e, .int .i64 ((n + 1 : Nat) : Int)] W (Good W (.bool true))) :
    Calls Try.prog 37 #[exV t A c, exV t B e, .int .i64 ((n + 1 : Nat) : Int)] W (Good W (.bool true)) := by
  have hkl := hA.node.kids
  have hz1 : ¬ (((n + 1 : Nat) : Int) < 1) := by omega
  have hz2 : ((n + 1 : Nat) : Int) ≤ 1001 := by omega
  have ih' : ∀ d', d = d' + 1 → ∀ (t : Tr) (A B : Option Addr) (c e : Nat) (W : World), TrAt ok W d' A t → TrAt ok W d' B t →
      Calls Try.prog 37 #[exV t A c, exV t B e, .int .i64 (((n + 1 : Nat) : Int) - 1)] W (Good W (.bool true)) := by
    intro d' hd t A B c e W h1 h2
    obtain ⟨m, rfl⟩ : ∃ m, n = m + 1 := ⟨n - 1, by omega⟩
    rw [show (((m + 1 + 1 : Nat) : Int) - 1) = ((m + 1 : Nat) : Int) by omega]
    exact ih d' hd m t A B c e W (by omega) (by omega) h1 h2
  clear ih
  generalize ((n + 1 : Nat) : Int) = z at *
  have HA := Lib.hid hA
  have HB := Lib.hid hB
  clear hA hB
  have HS := Lib.hid (SmB.start W t A B c e)
  obtain ⟨⟨c0, c1, c2, c3⟩, e0, e1, e2, e3⟩ := HS.out.cells
  have hc : ∀ w, SmB W t A B c e w → _ := fun w h => h.cells
  unfold exV exC at *
  go_enter Try.func37, Try.ntmps37
  go_wp2_with fail
  go_loopw [7] (fun i wr => ∃ k : Nat, i = .int .i64 k ∧ k ≤ t.kids.length ∧ SmB W t A B c e wr) (fun i _ => t.kids.length - (intOf i).toNat)
  case atStart => exact ⟨0, rfl, Nat.zero_le _, HS.out⟩
  case round =>
    obtain ⟨k, rfl, hkl, hS⟩ := hrel
    clear HS c0 c1 c2 c3 e0 e1 e2 e3
    obtain ⟨⟨c0, c1, c2, c3⟩, e0, e1, e2, e3⟩ := hc _ hS
    by_cases hk : k < t.kids.length
    · obtain ⟨b, off, A1, c1', d', hd', hAe, ho, hlt, x0, x1, x2, x3, ta⟩ := (HA.out.below hS.bel).at_ hk
      obtain ⟨b', off', B1, c2', d'', hd'', hBe, ho', hlt', y0, y1, y2, y3, tb⟩ := (HB.out.below hS.bel).at_ hk
      obtain rfl : d' = d'' := by omega
      have hP : SmP ok W t A B c e b b' d' t.kids[k] A1 B1 wr := ⟨hS, hlt, hlt', ta, tb⟩
      have cs := ih' d' hd' (t.kids[k]'hk) A1 B1 c1' c2'
      have hwz : z - 1 = IntKind.i64.wrap (z - 1) := by rw [IntKind.wrap_i64]; omega
      rw [hwz] at cs
      clear hwz
      have hstep := fun w w' (h : SmP ok W t A B c e b b' d' t.kids[k] A1 B1 w) hb => SmP.later (w' := w') h hb
      have HK := Lib.hid hk
      have hki : (k : Int) < (t.kids.length : Int) := by omega
      have hk0 : (0 : Int) ≤ (k : Int) := by omega
      generalize t.kids[k] = kt at *
      subst hAe hBe
      clear hS ta tb hlt hlt' ho ho' c0 c1 c2 e0 e1 e2
      have hst2 : ∀ w w', (w.cell? ⟨W.heap.size, 3, none⟩ = some (.slice (some ⟨b, off, none⟩) t.kids.length c) ∧ w.cell? ⟨W.heap.size + 1, 3, none⟩ = some (.slice (some ⟨b', off', none⟩) t.kids.length e) ∧ w.cell? ⟨b, off + k * 4, none⟩ = some (.int .i64 kt.op) ∧ w.cell? ⟨b, off + k * 4 + 1, none⟩ = some (.string kt.name) ∧ w.cell? ⟨b, off + k * 4 + 2, none⟩ = some (.string kt.value) ∧ w.cell? ⟨b, off + k * 4 + 3, none⟩ = some (.slice A1 kt.kids.length c1') ∧ w.cell? ⟨b', off' + k * 4, none⟩ = some (.int .i64 kt.op) ∧ w.cell? ⟨b', off' + k * 4 + 1, none⟩ = some (.string kt.name) ∧ w.cell? ⟨b', off' + k * 4 + 2, none⟩ = some (.string kt.value) ∧ w.cell? ⟨b', off' + k * 4 + 3, none⟩ = some (.slice B1 kt.kids.length c2') ∧ SmP ok W t (some ⟨b, off, none⟩) (some ⟨b', off', none⟩) c e b b' d' kt A1 B1 w) → Below w.heap.size w w' →
          (w'.cell? ⟨W.heap.size, 3, none⟩ = some (.slice (some ⟨b, off, none⟩) t.kids.length c) ∧ w'.cell? ⟨W.heap.size + 1, 3, none⟩ = some (.slice (some ⟨b', off', none⟩) t.kids.length e) ∧ w'.cell? ⟨b, off + k * 4, none⟩ = some (.int .i64 kt.op) ∧ w'.cell? ⟨b, off + k * 4 + 1, none⟩ = some (.string kt.name) ∧ w'.cell? ⟨b, off + k * 4 + 2, none⟩ = some (.string kt.value) ∧ w'.cell? ⟨b, off + k * 4 + 3, none⟩ = some (.slice A1 kt.kids.length c1') ∧ w'.cell? ⟨b', off' + k * 4, none⟩ = some (.int .i64 kt.op) ∧ w'.cell? ⟨b', off' + k * 4 + 1, none⟩ = some (.string kt.name) ∧ w'.cell? ⟨b', off' + k * 4 + 2, none⟩ = some (.string kt.value) ∧ w'.cell? ⟨b', off' + k * 4 + 3, none⟩ = some (.slice B1 kt.kids.length c2') ∧ SmP ok W t (some ⟨b, off, none⟩) (some ⟨b', off', none⟩) c e b b' d' kt A1 B1 w') := by
        rintro w w' ⟨q0, q1, q2, q3, q4, q5, q6, q7, q8, q9, hp⟩ hb
        exact ⟨(hb.cell (p := ⟨W.heap.size, 3, none⟩) hp.box.one.lt).trans q0, (hb.cell (p := ⟨W.heap.size + 1, 3, none⟩) hp.box.two.lt).trans q1, (hb.cell (p := ⟨b, off + k * 4, none⟩) hp.ba).trans q2, (hb.cell (p := ⟨b, off + k * 4 + 1, none⟩) hp.ba).trans q3, (hb.cell (p := ⟨b, off + k * 4 + 2, none⟩) hp.ba).trans q4, (hb.cell (p := ⟨b, off + k * 4 + 3, none⟩) hp.ba).trans q5, (hb.cell (p := ⟨b', off' + k * 4, none⟩) hp.bb).trans q6, (hb.cell (p := ⟨b', off' + k * 4 + 1, none⟩) hp.bb).trans q7, (hb.cell (p := ⟨b', off' + k * 4 + 2, none⟩) hp.bb).trans q8, (hb.cell (p := ⟨b', off' + k * 4 + 3, none⟩) hp.bb).trans q9, hp.later hb⟩
      have h0 := id (And.intro c3 (And.intro e3 (And.intro x0 (And.intro x1 (And.intro x2 (And.intro x3 (And.intro y0 (And.intro y1 (And.intro y2 (And.intro y3 hP))))))))))
      clear hstep
      go_wp2_with fail
      go_region_held3 (fun w => w.cell? ⟨W.heap.size, 3, none⟩ = some (.slice (some ⟨b, off, none⟩) t.kids.length c) ∧ w.cell? ⟨W.heap.size + 1, 3, none⟩ = some (.slice (some ⟨b', off', none⟩) t.kids.length e) ∧ w.cell? ⟨b, off + k * 4, none⟩ = some (.int .i64 kt.op) ∧ w.cell? ⟨b, off + k * 4 + 1, none⟩ = some (.string kt.name) ∧ w.cell? ⟨b, off + k * 4 + 2, none⟩ = some (.string kt.value) ∧ w.cell? ⟨b, off + k * 4 + 3, none⟩ = some (.slice A1 kt.kids.length c1') ∧ w.cell? ⟨b', off' + k * 4, none⟩ = some (.int .i64 kt.op) ∧ w.cell? ⟨b', off' + k * 4 + 1, none⟩ = some (.string kt.name) ∧ w.cell? ⟨b', off' + k * 4 + 2, none⟩ = some (.string kt.value) ∧ w.cell? ⟨b', off' + k * 4 + 3, none⟩ = some (.slice B1 kt.kids.length c2') ∧ SmP ok W t (some ⟨b, off, none⟩) (some ⟨b', off', none⟩) c e b b' d' kt A1 B1 w)
        (first | exact hst2 _ _ h0 ((Below.refl _ _).drew) | exact hst2 _ _ (by assumption) (by assumption))
        (first | ((with_reducible refine (cs _ (by first | exact (hP.later ((Below.refl _ _).drew)).ta | assumption) (by first | exact (hP.later ((Below.refl _ _).drew)).tb | assumption)).mono ?_); rintro en w2 ⟨rfl, hb2⟩))
      all_goals go_wp2_with fail
      all_goals go_roundw
      case rel => exact ⟨k + 1, by go_num, HK.out, hP.box.later (((Below.refl _ _).drew).trans hb2)⟩
      case measure => simp [intOf]; omega
    · have hb := hS.bel
      go_wp2_with fail
      go_ret
      exact ⟨rfl, hb⟩
theorem same_c (ok : Nat → Prop) : ∀ (d n : Nat) (t : Tr) (A B : Option Addr) (c e : Nat) (W : World), d ≤ n → n ≤ 1000 → TrAt ok W d A t → TrAt ok W d B t →
    Calls Try.prog 37 #[exV t A c, exV t B e, .int .i64 ((n + 1 : Nat) : Int)] W (Good W (.bool true)) := by
  intro d
  induction d with
  | zero => exact fun n t A B c e W h1 h2 hA hB => same_in ok 0 n t A B c e W h1 h2 hA hB (fun d' h => absurd h (by omega))
  | succ d ih => exact fun n t A B c e W h1 h2 hA hB => same_in ok (d + 1) n t A B c e W h1 h2 hA hB (fun d' h => by cases h; exact ih)
end Go.Proofs.Ytneholfghffpfaa
