/- topic: lists of topics that are the same; two tables side by side. No condition. -/
import Derived.Test.YtnpfakjgocnkbaaTpPr
import Derived.Test.YtnpfakjgocnkbaaTpIds
namespace Go.Proofs.Ytnpfakjgocnkbaa
open Go.RowKit
set_option linter.unusedVariables false
theorem topC_len (F : List TE) : (topC F).length = F.length * 2 := by
  induction F with
  | nil => rfl
  | cons x l ih => show (_ :: _ :: topC l).length = _; simp only [List.length_cons, ih]; omega
theorem topC_at : ∀ {F : List TE} {j : Nat} {x : TE}, F[j]? = some x → (topC F)[j * 2]? = some (.string (nmA x)) ∧ (topC F)[j * 2 + 1]? = some (.int .i64 x.parts)
  | [], j, e, h => by cases h
  | x :: l, 0, e, h => by
    have : x = e := by simpa using h
    subst this
    exact ⟨rfl, rfl⟩
  | x :: l, j + 1, e, h => by
    have ih := topC_at (F := l) (j := j) (x := e) (by simpa using h)
    have hl : (toC x).length = 2 := rfl
    show (toC x ++ topC l)[(j + 1) * 2]? = _ ∧ (toC x ++ topC l)[(j + 1) * 2 + 1]? = _
    rw [List.getElem?_append_right (by rw [hl]; omega), List.getElem?_append_right (by rw [hl]; omega), hl]
    rw [show (j + 1) * 2 - 2 = j * 2 by omega, show (j + 1) * 2 + 1 - 2 = j * 2 + 1 by omega]
    exact ih
theorem top_cell {w : World} {base c n : Nat} {F : List TE} {A : Option Addr} (hn : F.length = n) (hrow : w.ownsRow base 76 2 (.slice A n c) n (topC F)) {k : Nat} {x : TE} (hk : F[k]? = some x) :
    ∃ g, A = some ⟨g, 0, none⟩ ∧ w.cell? ⟨g, k * 2, none⟩ = some (.string (nmA x)) ∧ w.cell? ⟨g, k * 2 + 1, none⟩ = some (.int .i64 x.parts) ∧ g < w.heap.size ∧ n ≤ c := by
  have hl : k < n := by rw [← hn]; exact (List.getElem?_eq_some_iff.1 hk).1
  have hrow' := hrow
  rcases hrow'.2 with ⟨hv, h0⟩ | ⟨g, cap, cur, hv, hg, hh, h4, h5, h6, h7⟩
  · omega
  · injection hv with e1 e2 e3
    subst e1 e3
    obtain ⟨k1, k2⟩ := topC_at hk
    exact ⟨g, rfl, (hrow.cellAt (k * 2) (by omega)).trans k1, (hrow.cellAt (k * 2 + 1) (by omega)).trans k2, lt_of_there hh, h4⟩
set_option maxHeartbeats 4000000 in
set_option maxRecDepth 100000 in
theorem sameTop_c (F G : List TE) (n : Nat) (A B : Option Addr) (c d base base' : Nat) (W : World) (hF : F.length = n) (hG : G.length = n) (hFG : topC F = topC G) (hA : W.ownsRow base 76 2 (.slice A n c) n (topC F)) (hB : W.ownsRow base' 76 2 (.slice B n d) n (topC G)) (hl : n ≤ 100000) :
    Calls Try.prog 17 #[.slice A n c, .slice B n d] W (fun e w' => e = .returned (.bool true) ∧ ∃ q, w' = W.drewN q) := by
  rw [← hFG] at hB
  have HA := Lib.hid hA
  have HB := Lib.hid hB
  have HF := Lib.hid hF
  clear hA hB hF hG hFG
  go_enter Try.func17, Try.ntmps17
  go_wp2
  go_loopw [5] (fun j wr => ∃ k q : Nat, j = .int .i64 k ∧ k ≤ n ∧ wr = W.drewN q) (fun j _ => n - (intOf j).toNat)
  case atStart => exact ⟨0, 0, rfl, Nat.zero_le _, rfl⟩
  case round =>
    obtain ⟨k, q, rfl, hle, rfl⟩ := hrel
    by_cases hk : k < n
    · obtain ⟨x, hx⟩ : ∃ x, F[k]? = some x := ⟨_, List.getElem?_eq_getElem (by rw [HF.out]; exact hk)⟩
      obtain ⟨b, rfl, x0, x1, hlt, hc1⟩ := top_cell HF.out HA.out hx
      obtain ⟨b2, rfl, y0, y1, hlt2, hc2⟩ := top_cell HF.out HB.out hx
      have hki : (k : Int) < (n : Int) := by omega
      have hk0 : (0 : Int) ≤ (k : Int) := by omega
      clear hx
      go_wp2_with fail
      go_quiet (fail)
      all_goals
        go_wp2_with fail
        go_roundw
        case rel => exact ⟨k + 1, _, by go_num, hk, by first | exact World.drewN_drewN _ _ _ | rfl⟩
        case measure => simp [intOf]; omega
    · have hki : ¬ (k : Int) < (n : Int) := by omega
      clear hk
      go_wp2_with fail
      go_ret
      exact ⟨rfl, q, rfl⟩
/-- Create and Delete of a table, whatever else there is. -/
theorem createX {w : World} {p : Nat} {t : TS} {S : Nat → Prop} (h : TI p t w S) (hok : TOk t) (s : ByteArray) (k : Int) (hs : s.size ≤ 140737488351232) :
    Calls Try.prog 9 #[.pointer (some ⟨p, 0, none⟩), .string s, .int .i64 k] w (fun en w' => en = .returned (.tuple #[.int .i64 (crR t s.data.toList k).1, .int .i64 (crR t s.data.toList k).2]) ∧ TI p (crS t s.data.toList k) w' (fun i => S i ∨ w.heap.size ≤ i) ∧ Off S w w' ∧ KeepO badT w w') := by
  obtain ⟨m, a1, a2, a3⟩ := h
  have hc := tcreate_c p t s k w (fun i => i = p ∨ m = some i) ⟨m, a1, .inl rfl, fun i hi => .inr hi⟩ hok hs
  refine Calls.mono hc ?_
  rintro en w' ⟨rfl, hT, hO⟩
  have hsub : ∀ i, (i = p ∨ m = some i) → S i := fun i hi => by
    rcases hi with rfl | hi
    · exact a2
    · exact a3 i hi
  refine ⟨rfl, hT.mono fun i hi => ?_, hO.mono fun i _ hi => hsub i hi, ?_⟩
  · rcases hi with hi | hi
    · exact .inl (hsub i hi)
    · exact .inr hi
  · exact TI.keepO ⟨m, a1, a2, a3⟩ fun T hT => hO.mono fun i _ hi => by
      rcases hi with rfl | hi
      · exact hT.1
      · exact hT.2 m a1 i hi
theorem deleteX {w : World} {p : Nat} {t : TS} {S : Nat → Prop} (h : TI p t w S) (s : ByteArray) (hs : s.size ≤ 140737488351232) :
    Calls Try.prog 11 #[.pointer (some ⟨p, 0, none⟩), .string s] w (fun en w' => en = .returned (.tuple #[.int .i64 (deR t s.data.toList).1, .int .i64 (deR t s.data.toList).2]) ∧ TI p (deS t s.data.toList) w' (fun i => S i ∨ w.heap.size ≤ i) ∧ Off S w w' ∧ KeepO badT w w') := by
  obtain ⟨m, a1, a2, a3⟩ := h
  have hc := tdelete_c p t s w (fun i => i = p ∨ m = some i) ⟨m, a1, .inl rfl, fun i hi => .inr hi⟩ hs
  refine Calls.mono hc ?_
  rintro en w' ⟨rfl, hT, hO⟩
  have hsub : ∀ i, (i = p ∨ m = some i) → S i := fun i hi => by
    rcases hi with rfl | hi
    · exact a2
    · exact a3 i hi
  refine ⟨rfl, hT.mono fun i hi => ?_, hO.mono fun i _ hi => hsub i hi, ?_⟩
  · rcases hi with hi | hi
    · exact .inl (hsub i hi)
    · exact .inr hi
  · exact TI.keepO ⟨m, a1, a2, a3⟩ fun T hT => hO.mono fun i _ hi => by
      rcases hi with rfl | hi
      · exact hT.1
      · exact hT.2 m a1 i hi
/-- Two tables of the call's own, in blocks apart. -/
structure T2 (W : World) (pa : Nat) (ta : TS) (pb : Nat) (tb : TS) (w : World) : Prop where
  ex : ∃ Sa Sb : Nat → Prop, TI pa ta w Sa ∧ TI pb tb w Sb ∧ (∀ k, Sa k → ¬ Sb k) ∧ (∀ k, Sa k → W.heap.size ≤ k ∧ k < w.heap.size) ∧ (∀ k, Sb k → W.heap.size ≤ k ∧ k < w.heap.size)
  oka : TOk ta
  okb : TOk tb
  bel : Below W.heap.size W w
theorem T2.swap {W w : World} {pa pb : Nat} {ta tb : TS} (h : T2 W pa ta pb tb w) : T2 W pb tb pa ta w := by
  obtain ⟨Sa, Sb, h1, h2, h3, h4, h5⟩ := h.ex
  exact ⟨⟨Sb, Sa, h2, h1, fun k hb ha => h3 k ha hb, h5, h4⟩, h.okb, h.oka, h.bel⟩
theorem T2.later {W w w' : World} {pa pb : Nat} {ta tb : TS} (h : T2 W pa ta pb tb w) (hb : Below w.heap.size w w') : T2 W pa ta pb tb w' := by
  obtain ⟨Sa, Sb, h1, h2, h3, h4, h5⟩ := h.ex
  have hz := hb.size
  exact ⟨⟨Sa, Sb, h1.later hb, h2.later hb, h3, fun k hk => ⟨(h4 k hk).1, by have := (h4 k hk).2; omega⟩, fun k hk => ⟨(h5 k hk).1, by have := (h5 k hk).2; omega⟩⟩, h.oka, h.okb, h.bel.trans (hb.mono h.bel.size)⟩
theorem T2.turn {W w w' : World} {pa pb : Nat} {ta' tb : TS} {Sa Sb : Nat → Prop} (hW : Below W.heap.size W w) (h2 : TI pb tb w Sb) (h3 : ∀ k, Sa k → ¬ Sb k) (h4 : ∀ k, Sa k → W.heap.size ≤ k ∧ k < w.heap.size) (h5 : ∀ k, Sb k → W.heap.size ≤ k ∧ k < w.heap.size) (hoka : TOk ta') (hokb : TOk tb)
    (hT : TI pa ta' w' (fun i => Sa i ∨ w.heap.size ≤ i)) (hO : Off Sa w w') : T2 W pa ta' pb tb w' := by
  have hz := hO.size
  have hWz := hW.size
  refine ⟨⟨_, Sb, hT.tight, h2.off hO (fun k hk ha => h3 k ha hk), fun k hk hb => ?_, fun k hk => ⟨?_, hk.2⟩, fun k hk => ⟨(h5 k hk).1, by have := (h5 k hk).2; omega⟩⟩, hoka, hokb, hW.trans (hO.below hWz fun k hk => (h4 k hk).1)⟩
  · rcases hk.1 with h | h
    · exact h3 k h hb
    · have := (h5 k hb).2; omega
  · rcases hk.1 with h | h
    · exact (h4 k h).1
    · omega
theorem T2.create {W w : World} {pa pb : Nat} {ta tb : TS} (h : T2 W pa ta pb tb w) (s : ByteArray) (k : Int) (hs : s.size ≤ 140737488351232) :
    Calls Try.prog 9 #[.pointer (some ⟨pa, 0, none⟩), .string s, .int .i64 k] w (fun en w' => en = .returned (.tuple #[.int .i64 (crR ta s.data.toList k).1, .int .i64 (crR ta s.data.toList k).2]) ∧ T2 W pa (crS ta s.data.toList k) pb tb w' ∧ KeepO badT w w') := by
  obtain ⟨Sa, Sb, h1, h2, h3, h4, h5⟩ := h.ex
  refine (createX h1 h.oka s k hs).mono ?_
  rintro en w' ⟨rfl, hT, hO, hK⟩
  exact ⟨rfl, T2.turn h.bel h2 h3 h4 h5 (h.oka.create _ _) h.okb hT hO, hK⟩
theorem T2.delete {W w : World} {pa pb : Nat} {ta tb : TS} (h : T2 W pa ta pb tb w) (s : ByteArray) (hs : s.size ≤ 140737488351232) :
    Calls Try.prog 11 #[.pointer (some ⟨pa, 0, none⟩), .string s] w (fun en w' => en = .returned (.tuple #[.int .i64 (deR ta s.data.toList).1, .int .i64 (deR ta s.data.toList).2]) ∧ T2 W pa (deS ta s.data.toList) pb tb w' ∧ KeepO badT w w') := by
  obtain ⟨Sa, Sb, h1, h2, h3, h4, h5⟩ := h.ex
  refine (deleteX h1 s hs).mono ?_
  rintro en w' ⟨rfl, hT, hO, hK⟩
  exact ⟨rfl, T2.turn h.bel h2 h3 h4 h5 (h.oka.delete _) h.okb hT hO, hK⟩
theorem T2.list {W w : World} {pa pb : Nat} {ta tb : TS} (h : T2 W pa ta pb tb w) : Calls Try.prog 18 #[.pointer (some ⟨pa, 0, none⟩)] w (ListIs w ta.2) := by
  obtain ⟨Sa, Sb, ⟨m, h1, _⟩, _⟩ := h.ex
  exact list_c pa m ta.1 ta.2 w h1 (by have := h.oka.many; omega) (fun e he => by have := (h.oka.names e he).2; omega)
theorem KeepO.row {w w' : World} {B n : Nat} {v : Value} {xs : List Value} {t : TypeId} {z : Nat} (h : KeepO badT w w') (hr : w.ownsRow B t z v n xs) (ht : t ≠ 56) : w'.ownsRow B t z v n xs := by
  refine ⟨hr.1, ?_⟩
  rcases hr.2 with h0 | ⟨g, cap, cur, hv, hg, hh, h4⟩
  · exact .inl h0
  · exact .inr ⟨g, cap, cur, hv, hg, h g _ hh (fun e => ht e), h4⟩
end Go.Proofs.Ytnpfakjgocnkbaa
