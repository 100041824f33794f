/- index: an index and the blocks that it has; two of them side by side. No condition. -/
import Derived.Test.YtljgiabaekddlaaIxRg
import Derived.Test.YtljgiabaekddlaaIxEn
namespace Go.Proofs.Ytljgiabaekddlaa
open Go.RowKit
set_option linter.unusedVariables false
/-- Entries rise, and none is beyond what was added last. -/
def Ix.Wf (x : Ix) : Prop := Srt x.L ∧ ∀ e ∈ x.L, e.1 ≤ x.lo ∧ e.2.1 ≤ x.lp ∧ e.2.2 ≤ x.lt
theorem Ix.wf_new (every : Int) : (⟨every, [], 0, 0, 0⟩ : Ix).Wf := ⟨List.Pairwise.nil, fun e he => by cases he⟩
theorem Ix.ok_rises {x : Ix} {o p t : Int} (h : x.ok o p t = true) (hL : x.L ≠ []) : x.lo < o ∧ x.lp < p := by
  unfold Ix.ok risesB at h
  simp only [Bool.and_eq_true, Bool.or_eq_true, decide_eq_true_eq] at h
  obtain ⟨_, _, _, h⟩ := h
  rcases h with h | h
  · exact absurd (List.length_eq_zero_iff.1 h) hL
  · exact h
theorem Ix.wf_add {x : Ix} (h : x.Wf) (o p t : Int) : (x.add o p t).Wf := by
  unfold Ix.add
  by_cases hk : x.ok o p t = true
  · rw [if_pos hk]
    have hup : ∀ e ∈ x.L, e.1 < o ∧ e.2.1 < p ∧ e.2.2 ≤ max x.lt t := fun e he => by
      have hne : x.L ≠ [] := fun hn => by rw [hn] at he; cases he
      have := Ix.ok_rises hk hne
      have := h.2 e he
      omega
    by_cases hd : dueB x p = true
    · rw [if_pos hd]
      refine ⟨?_, fun e he => ?_⟩
      · show Srt (x.L ++ [(o, p, max x.lt t)])
        unfold Srt
        rw [List.pairwise_append]
        refine ⟨h.1, List.pairwise_singleton _ _, fun e he f hf => ?_⟩
        have hf' : f = (o, p, max x.lt t) := by simpa using hf
        subst hf'
        exact hup e he
      · have he' : e ∈ x.L ∨ e = (o, p, max x.lt t) := by simpa using he
        rcases he' with he' | rfl
        · have := hup e he'
          show e.1 ≤ o ∧ e.2.1 ≤ p ∧ e.2.2 ≤ max x.lt t
          omega
        · exact ⟨Int.le_refl _, Int.le_refl _, Int.le_refl _⟩
    · rw [if_neg hd]
      refine ⟨h.1, fun e he => ?_⟩
      have := hup e he
      show e.1 ≤ o ∧ e.2.1 ≤ p ∧ e.2.2 ≤ max x.lt t
      omega
  · rw [if_neg hk]
    exact h
theorem Ix.add_len (x : Ix) (o p t : Int) : (x.add o p t).L.length ≤ x.L.length + 1 := by
  unfold Ix.add
  split
  · simp only
    split
    · simp
    · omega
  · omega
abbrev RepT := World → (Nat → Prop) → Prop
/-- What a representation keeps. -/
structure Rep (I : RepT) : Prop where
  off : ∀ w w' S T, I w S → Off T w w' → (∀ k, S k → ¬ T k) → I w' S
  tight : ∀ w S, I w S → I w (fun k => S k ∧ k < w.heap.size)
def XI (p : Nat) (x : Ix) : RepT := fun w S => ∃ A c, IxIs w 0 p x A c ∧ S p ∧ ∀ k, blk A k → S k
def RI (p : Nat) (x : Ix) : RepT := fun w S => ∃ A c, RxIs w 0 p x A c ∧ S p ∧ ∀ k, blk A k → S k
theorem xi_rep (p : Nat) (x : Ix) : Rep (XI p x) := by
  refine ⟨fun w w' S T ⟨A, c, h, hp, hA⟩ ho hd => ⟨A, c, ⟨h.box.off ho (hd _ hp), own_off h.row ho (fun k e => hd _ (hA k (own_blk e))), h.lo, h.oks, h.okl⟩, hp, hA⟩, fun w S ⟨A, c, h, hp, hA⟩ => ⟨A, c, h, ⟨hp, h.box.lt⟩, fun k hk => ⟨hA k hk, (blk_own h.row hk).2.2⟩⟩⟩
theorem ri_rep (p : Nat) (x : Ix) : Rep (RI p x) := by
  refine ⟨fun w w' S T ⟨A, c, h, hp, hA⟩ ho hd => ⟨A, c, ⟨h.box.off ho (hd _ hp), own_off h.row ho (fun k e => hd _ (hA k (own_blk e))), h.lo, h.l0, h.ev, h.oks⟩, hp, hA⟩, fun w S ⟨A, c, h, hp, hA⟩ => ⟨A, c, h, ⟨hp, h.box.lt⟩, fun k hk => ⟨hA k hk, (blk_own h.row hk).2.2⟩⟩⟩
theorem tt_rep : Rep (fun _ _ => True) := ⟨fun _ _ _ _ _ _ _ => trivial, fun _ _ _ => trivial⟩
/-- What a call does to one of them. -/
def Turns (w : World) (S : Nat → Prop) (v : Value) (I' : RepT) (e : Ending) (w' : World) : Prop := e = .returned v ∧ I' w' (fun k => S k ∨ w.heap.size ≤ k) ∧ Off S w w'
theorem xadd_t {w : World} {p : Nat} {x : Ix} {S : Nat → Prop} (h : XI p x w S) (o q t : Int) (hn : x.L.length ≤ 100000) : Calls Try.prog 10 #[.pointer (some ⟨p, 0, none⟩), .int .i64 o, .int .i64 q, .int .i64 t] w (Turns w S (.int .i64 (x.addE o q t)) (XI p (x.add o q t))) := by
  obtain ⟨A, c, hI, hp, hA⟩ := h
  refine (add_c x A c 0 p o q t w hI (Nat.zero_le _) hn).mono ?_
  rintro e w' ⟨A', c', rfl, hI', ho, hn'⟩
  refine ⟨rfl, ⟨A', c', hI', .inl hp, fun k hk => ?_⟩, ho.mono (fun i _ hi => ?_)⟩
  · rcases hn' k hk with h | h
    · exact .inl (hA k h)
    · exact .inr h
  · rcases hi with rfl | hi
    · exact hp
    · exact hA i hi
theorem radd_t {w : World} {p : Nat} {x : Ix} {S : Nat → Prop} (h : RI p x w S) (o q t : Int) (hn : x.L.length ≤ 100000) : Calls Try.prog 11 #[.pointer (some ⟨p, 0, none⟩), .int .i64 o, .int .i64 q, .int .i64 t] w (Turns w S (.int .i64 (x.addE o q t)) (RI p (x.add o q t))) := by
  obtain ⟨A, c, hI, hp, hA⟩ := h
  refine (radd_c x A c 0 p o q t w hI (Nat.zero_le _) hn).mono ?_
  rintro e w' ⟨A', c', rfl, hI', ho, hn'⟩
  refine ⟨rfl, ⟨A', c', hI', .inl hp, fun k hk => ?_⟩, ho.mono (fun i _ hi => ?_)⟩
  · rcases hn' k hk with h | h
    · exact .inl (hA k h)
    · exact .inr h
  · rcases hi with rfl | hi
    · exact hp
    · exact hA i hi
/-- Two side by side, of the call's own. -/
def Tw (W : World) (I J : RepT) (w : World) : Prop := ∃ S T : Nat → Prop, I w S ∧ J w T ∧ (∀ k, S k → ¬ T k) ∧ (∀ k, S k → W.heap.size ≤ k) ∧ (∀ k, T k → W.heap.size ≤ k) ∧ Below W.heap.size W w
section
variable {W w w' : World} {I J I' J' : RepT} {P : Program} {f : FuncId} {args : Array Value} {v : Value}
theorem Tw.bel (h : Tw W I J w) : Below W.heap.size W w := by
  obtain ⟨S, T, h1, h2, h3, h4, h5, h6⟩ := h
  exact h6
theorem Tw.swap (h : Tw W I J w) : Tw W J I w := by
  obtain ⟨S, T, h1, h2, h3, h4, h5, h6⟩ := h
  exact ⟨T, S, h2, h1, fun k a b => h3 k b a, h5, h4, h6⟩
theorem Tw.later (h : Tw W I J w) (hI : Rep I) (hJ : Rep J) (hb : Below w.heap.size w w') : Tw W I J w' := by
  obtain ⟨S, T, h1, h2, h3, h4, h5, h6⟩ := h
  exact ⟨S, T, hI.off _ _ _ _ h1 (Off.of_below (fun _ => False) hb) (fun _ _ x => x), hJ.off _ _ _ _ h2 (Off.of_below (fun _ => False) hb) (fun _ _ x => x), h3, h4, h5, h6.trans (hb.mono h6.size)⟩
theorem Tw.one (h : Tw W I J w) (hI : Rep I) (hJ : Rep J) (hc : ∀ S, I w S → Calls P f args w (Turns w S v I')) : Calls P f args w (fun e w' => e = .returned v ∧ Tw W I' J w') := by
  obtain ⟨S, T, h1, h2, h3, h4, h5, h6⟩ := h
  refine (hc _ (hI.tight _ _ h1)).mono ?_
  rintro e w' ⟨rfl, hI', ho⟩
  have hs := h6.size
  refine ⟨rfl, _, _, hI', hJ.off _ _ _ _ (hJ.tight _ _ h2) ho (fun k hk hx => h3 k hx.1 hk.1), fun k hk hx => ?_, fun k hk => ?_, fun k hk => h5 k hk.1, h6.trans (ho.below hs fun k hk => h4 k hk.1)⟩
  · rcases hk with hk | hk
    · exact h3 k hk.1 hx.1
    · have := hx.2; omega
  · rcases hk with hk | hk
    · exact h4 k hk.1
    · omega
theorem Tw.two (h : Tw W I J w) (hI : Rep I) (hJ : Rep J) (hc : ∀ S, J w S → Calls P f args w (Turns w S v J')) : Calls P f args w (fun e w' => e = .returned v ∧ Tw W I J' w') :=
  (h.swap.one hJ hI hc).mono fun e w' ⟨he, ht⟩ => ⟨he, ht.swap⟩
theorem Tw.read (h : Tw W I J w) (hI : Rep I) (hJ : Rep J) (hc : Calls P f args w (Good w v)) : Calls P f args w (fun e w' => e = .returned v ∧ Tw W I J w') :=
  hc.mono fun e w' ⟨he, hb⟩ => ⟨he, h.later hI hJ hb⟩
end
theorem Tw.xadd {W w : World} {p : Nat} {x : Ix} {J : RepT} (h : Tw W (XI p x) J w) (hJ : Rep J) (o q t : Int) (hn : x.L.length ≤ 100000) : Calls Try.prog 10 #[.pointer (some ⟨p, 0, none⟩), .int .i64 o, .int .i64 q, .int .i64 t] w (fun e w' => e = .returned (.int .i64 (x.addE o q t)) ∧ Tw W (XI p (x.add o q t)) J w') :=
  h.one (xi_rep p x) hJ (fun S hS => xadd_t hS o q t hn)
theorem Tw.xadd2 {W w : World} {p : Nat} {x : Ix} {I : RepT} (h : Tw W I (XI p x) w) (hI : Rep I) (o q t : Int) (hn : x.L.length ≤ 100000) : Calls Try.prog 10 #[.pointer (some ⟨p, 0, none⟩), .int .i64 o, .int .i64 q, .int .i64 t] w (fun e w' => e = .returned (.int .i64 (x.addE o q t)) ∧ Tw W I (XI p (x.add o q t)) w') :=
  h.two hI (xi_rep p x) (fun S hS => xadd_t hS o q t hn)
theorem Tw.radd {W w : World} {p : Nat} {x : Ix} {I : RepT} (h : Tw W I (RI p x) w) (hI : Rep I) (o q t : Int) (hn : x.L.length ≤ 100000) : Calls Try.prog 11 #[.pointer (some ⟨p, 0, none⟩), .int .i64 o, .int .i64 q, .int .i64 t] w (fun e w' => e = .returned (.int .i64 (x.addE o q t)) ∧ Tw W I (RI p (x.add o q t)) w') :=
  h.two hI (ri_rep p x) (fun S hS => radd_t hS o q t hn)
section
variable {W w : World} {p q : Nat} {x y : Ix} {I J : RepT}
theorem Tw.xfind (h : Tw W (XI p x) J w) (hJ : Rep J) (off : Int) (hn : x.L.length ≤ 100000) (hs : x.Wf) : Calls Try.prog 12 #[.pointer (some ⟨p, 0, none⟩), .int .i64 off] w (fun e w' => e = .returned (.int .i64 (aheadG x.L (qF off))) ∧ Tw W (XI p x) J w') :=
  h.read (xi_rep p x) hJ (by
    obtain ⟨S, T, ⟨A, c, h1, _⟩, _⟩ := h
    exact find_c x A c 0 p off w h1 (by omega) hs.1)
theorem Tw.xseek (h : Tw W (XI p x) J w) (hJ : Rep J) (off : Int) (hn : x.L.length ≤ 100000) (hs : x.Wf) : Calls Try.prog 14 #[.pointer (some ⟨p, 0, none⟩), .int .i64 off] w (fun e w' => e = .returned (.int .i64 (aheadG x.L (qS off))) ∧ Tw W (XI p x) J w') :=
  h.read (xi_rep p x) hJ (by
    obtain ⟨S, T, ⟨A, c, h1, _⟩, _⟩ := h
    exact seek_c x A c 0 p off w h1 (by omega) hs.1)
theorem Tw.rfind (h : Tw W I (RI q x) w) (hI : Rep I) (off : Int) (hn : x.L.length ≤ 100000) (hs : x.Wf) : Calls Try.prog 13 #[.pointer (some ⟨q, 0, none⟩), .int .i64 off] w (fun e w' => e = .returned (.int .i64 (aheadG x.L (qF off))) ∧ Tw W I (RI q x) w') :=
  h.read hI (ri_rep q x) (by
    obtain ⟨S, T, _, ⟨A, c, h1, _⟩, _⟩ := h
    have := rfind_c x A c 0 q off w h1 (by omega)
    rwa [refG_ahead (qF_pair hs.1 off)] at this)
theorem Tw.rseek (h : Tw W I (RI q x) w) (hI : Rep I) (off : Int) (hn : x.L.length ≤ 100000) (hs : x.Wf) : Calls Try.prog 15 #[.pointer (some ⟨q, 0, none⟩), .int .i64 off] w (fun e w' => e = .returned (.int .i64 (aheadG x.L (qS off))) ∧ Tw W I (RI q x) w') :=
  h.read hI (ri_rep q x) (by
    obtain ⟨S, T, _, ⟨A, c, h1, _⟩, _⟩ := h
    have := rseek_c x A c 0 q off w h1 (by omega)
    rwa [refG_ahead (qS_pair hs.1 off)] at this)
end
theorem own_base {w : World} {base B t size n : Nat} {v : Value} {xs : List Value} (h : w.ownsRow base t size v n xs) (hB : B ≤ base) : w.ownsRow B t size v n xs := by
  refine ⟨h.1, ?_⟩
  rcases h.2 with h0 | ⟨g, cap, cur, rfl, hb, hg⟩
  · exact .inl h0
  · exact .inr ⟨g, cap, cur, rfl, Nat.le_trans hB hb, hg⟩
/-- A new one beside what there is. -/
theorem XI.new {w : World} {every : Int} {b : Nat} (h : IxIs w 0 b ⟨every, [], 0, 0, 0⟩ none 0) : XI b ⟨every, [], 0, 0, 0⟩ w (fun k => k = b) := ⟨none, 0, h, rfl, fun k ⟨a, e, _⟩ => by cases e⟩
theorem Tw.start {W w : World} {every : Int} {b : Nat} (h : IxIs w b b ⟨every, [], 0, 0, 0⟩ none 0) (hb : W.heap.size ≤ b) (hbel : Below W.heap.size W w) : Tw W (XI b ⟨every, [], 0, 0, 0⟩) (fun _ _ => True) w :=
  ⟨fun k => k = b, fun _ => False, XI.new ⟨h.box, own_base h.row (Nat.zero_le _), Nat.zero_le _, h.oks, h.okl⟩, trivial, fun _ _ x => x, fun k e => by subst e; exact hb, fun _ x => x.elim, hbel⟩
end Go.Proofs.Ytljgiabaekddlaa
