/- idem: what the statements make; Producers and the blocks that they have; what the document's examples say. No condition. -/
import Derived.Test.YtdhakekndinbeaaImMa
import Derived.Test.YtdhakekndinbeaaImPm
namespace Go.Proofs.Ytdhakekndinbeaa
open Go.RowKit
set_option linter.unusedVariables false
theorem batch_result {w : World} (g : Nat) {v0 v1 v2 v3 v4 v5 : Value} (h : Box w g 31 #[v0, v1, v2, v3, v4, v5]) (tmps : Array Value) (ht : (tmps[8]?).getD undef = .pointer (some ⟨g, 0, none⟩)) :
    (results Try.f23 tmps).run Try.prog w = .ok (.agg #[v0, v1, v2, v3, v4, v5]) w := by
  have c0 := (h.cell 0).trans (show _ = some v0 from rfl)
  have c1 := (h.cell 1).trans (show _ = some v1 from rfl)
  have c2 := (h.cell 2).trans (show _ = some v2 from rfl)
  have c3 := (h.cell 3).trans (show _ = some v3 from rfl)
  have c4 := (h.cell 4).trans (show _ = some v4 from rfl)
  have c5 := (h.cell 5).trans (show _ = some v5 from rfl)
  simp [results, Try.results23, go_sem, ht, c0, c1, c2, c3, c4, c5]
set_option maxHeartbeats 4000000 in
set_option maxRecDepth 100000 in
theorem lsent_c (e q p b : Int) (W : World) : Calls Try.prog 23 #[.int .i64 e, .int .i64 q, .int .i64 p, .int .i64 b] W (Good W (bnV ⟨b, p, 7, e, q⟩ none 0 0)) := by
  have HX := Lib.hid (Box.new W 31 #[.int .i64 b, .int .i64 p, .int .i64 7, .int .i64 e, .int .i64 q, .slice none 0 0])
  have HB := Lib.hid ((Below.refl W.heap.size W).alloc (Nat.le_refl _) (.cells #[.int .i64 b, .int .i64 p, .int .i64 7, .int .i64 e, .int .i64 q, .slice none 0 0] 31))
  unfold bnV bnC
  go_enter Try.func23, Try.ntmps23
  go_wp2_with fail
  refine bodyPost_ret (v := .agg #[.int .i64 b, .int .i64 p, .int .i64 7, .int .i64 e, .int .i64 q, .slice none 0 0]) ?_ rfl ⟨rfl, HB.out⟩
  exact batch_result W.heap.size HX.out _ rfl
/-- Producers, and the blocks that they have. -/
def PI (p : Nat) (G : List GH) (w : World) (S : Nat → Prop) : Prop := ∃ m F, PdIs w p m F ∧ absF F = G ∧ S p ∧ (∀ k, m = some k → S k) ∧ ∀ y ∈ F, S y.blk
theorem PI.off {p : Nat} {G : List GH} {w w' : World} {S T : Nat → Prop} (h : PI p G w S) (ho : Off T w w') (hd : ∀ k, S k → ¬ T k) : PI p G w' S := by
  obtain ⟨m, F, h1, h2, h3, h4, h5⟩ := h
  exact ⟨m, F, h1.off ho (hd _ h3) (fun k hk => hd _ (h4 k hk)) (fun y hy => hd _ (h5 y hy)), h2, h3, h4, h5⟩
theorem PI.later {p : Nat} {G : List GH} {w w' : World} {S : Nat → Prop} (h : PI p G w S) (hb : Below w.heap.size w w') : PI p G w' S := h.off (Off.of_below (fun _ => False) hb) (fun _ _ x => x)
theorem PI.tight {p : Nat} {G : List GH} {w : World} {S : Nat → Prop} (h : PI p G w S) : PI p G w (fun k => S k ∧ k < w.heap.size) := by
  obtain ⟨m, F, h1, h2, h3, h4, h5⟩ := h
  refine ⟨m, F, h1, h2, ⟨h3, h1.box.lt⟩, fun k hk => ⟨h4 k hk, ?_⟩, fun y hy => ⟨h5 y hy, (h1.all y hy).pr.box.lt⟩⟩
  rcases h1.map with ⟨e, _⟩ | ⟨g, e, hm⟩
  · rw [e] at hk; cases hk
  · rw [e] at hk
    injection hk with hk
    subst hk
    exact hm.lt
/-- Producers of the call's own: what was there ahead is as it was. -/
structure PO (W : World) (p : Nat) (G : List GH) (w : World) : Prop where
  is : PI p G w (fun k => W.heap.size ≤ k)
  ok : GOk G
  bel : Below W.heap.size W w
theorem PO.later {W w w' : World} {p : Nat} {G : List GH} (h : PO W p G w) (hb : Below w.heap.size w w') : PO W p G w' := ⟨h.is.later hb, h.ok, h.bel.trans (hb.mono h.bel.size)⟩
theorem PO.drew {W w : World} {p : Nat} {G : List GH} (h : PO W p G w) : PO W p G w.drew := h.later (Below.refl _ _).drew
theorem PO.new {W w : World} (hb : Below W.heap.size W w) : PO W w.heap.size [] (w.alloc (.cells #[.map none] 58)) :=
  ⟨⟨none, [], new_is w, rfl, hb.size, (fun k hk => by cases hk), (fun y hy => by cases hy)⟩, GOk.nil, hb.trans (((Below.refl _ _).alloc (Nat.le_refl _) _).mono hb.size)⟩
theorem absF_len (F : List HE) : (absF F).length = F.length := by unfold absF; rw [List.length_map]
theorem PI.note {W : World} {p : Nat} {G : List GH} {S : Nat → Prop} (h : PI p G W S) (b : BN) (A : Option Addr) (n c : Nat) (hl : G.length ≤ 100000) :
    Calls Try.prog 12 #[dp p, bnV b A n c] W (fun e w' => e = .returned (.tuple #[]) ∧ PI p (noteG G b) w' (fun k => S k ∨ W.heap.size ≤ k) ∧ Off S W w') := by
  obtain ⟨m, F, h1, rfl, h3, h4, h5⟩ := h
  refine (note_c p m F b A n c W h1 (by rw [absF_len] at hl; exact hl)).mono ?_
  rintro e w' ⟨rfl, m', F', k1, k2, k3, _, k5, k6⟩
  refine ⟨rfl, ⟨m', F', k1, k2, .inl h3, fun k hk => ?_, fun y hy => ?_⟩, k3.mono fun i _ hi => ?_⟩
  · rcases k5 k hk with e | e
    · exact .inl (h4 k e)
    · exact .inr e
  · rcases k6 y hy with ⟨g, hg, e⟩ | e
    · rw [e]; exact .inl (h5 g hg)
    · exact .inr e
  · rcases hi with rfl | hi | ⟨g, hg, rfl⟩
    · exact h3
    · exact h4 i hi
    · exact h5 g hg
/-- What a Note may write: the program's own kinds of blocks. -/
def badP (o : Obj) : Prop := match o with
  | .cells _ t _ => t = 58 ∨ t = 67
  | .map _ _ => True
  | _ => False
/-- Blocks of other kinds are as they were. -/
def KeepO (bad : Obj → Prop) (w w' : World) : Prop := ∀ (k : Nat) (o : Obj), w.heap[k]? = some o → ¬ bad o → w'.heap[k]? = some o
theorem KeepO.box {w w' : World} {b : Nat} {t : TypeId} {cs : Array Value} (h : KeepO badP w w') (hb : Box w b t cs) (h1 : t ≠ 58) (h2 : t ≠ 67) : Box w' b t cs :=
  h b _ hb (fun hh => by
    rcases hh with e | e
    · exact h1 e
    · exact h2 e)
theorem KeepO.of_below {bad : Obj → Prop} {w w' : World} (hb : Below w.heap.size w w') : KeepO bad w w' := fun k o hk _ => (hb.block k (lt_of_there hk)).trans hk
theorem KeepO.trans {bad : Obj → Prop} {w w' w'' : World} (h : KeepO bad w w') (k : KeepO bad w' w'') : KeepO bad w w'' := fun i o hi hb => k i o (h i o hi hb) hb
theorem PO.note {W w : World} {p : Nat} {G : List GH} (h : PO W p G w) (b : BN) (A : Option Addr) (n c : Nat) (hl : G.length ≤ 100000) :
    Calls Try.prog 12 #[dp p, bnV b A n c] w (fun e w' => e = .returned (.tuple #[]) ∧ PO W p (noteG G b) w' ∧ KeepO badP w w') := by
  obtain ⟨m, F, a1, rfl, a3, a4, a5⟩ := h.is
  refine (note_c p m F b A n c w a1 (by rw [absF_len] at hl; exact hl)).mono ?_
  rintro e w' ⟨rfl, m', F', k1, k2, k3, _, k5, k6⟩
  have hs := h.bel.size
  refine ⟨rfl, ⟨⟨m', F', k1, k2, a3, fun k hk => ?_, fun y hy => ?_⟩, h.ok.note b, h.bel.trans (k3.below hs fun k hk => ?_)⟩, fun k o hk hbad => ?_⟩
  · rcases k5 k hk with e | e
    · exact a4 k e
    · omega
  · rcases k6 y hy with ⟨g, hg, e⟩ | e
    · rw [e]; exact a5 g hg
    · omega
  · rcases hk with rfl | hi | ⟨g, hg, rfl⟩
    · exact a3
    · exact a4 k hi
    · exact a5 g hg
  · refine (k3.block k (lt_of_there hk) ?_).trans hk
    rintro (rfl | hi | ⟨g, hg, rfl⟩)
    · have hb := a1.box
      unfold Box at hb
      rw [hk] at hb
      injection hb with hb
      subst hb
      exact hbad (.inl rfl)
    · rcases a1.map with ⟨e, _⟩ | ⟨g', e, hm⟩
      · rw [e] at hi; cases hi
      · rw [e] at hi
        injection hi with hi
        subst hi
        obtain ⟨es, clock, hb, _⟩ := hm
        rw [hk] at hb
        injection hb with hb
        subst hb
        exact hbad trivial
    · have hb := (a1.all g hg).pr.box
      unfold Box at hb
      rw [hk] at hb
      injection hb with hb
      subst hb
      exact hbad (.inr rfl)
theorem PI.check {W : World} {p : Nat} {G : List GH} {S : Nat → Prop} (h : PI p G W S) (b : BN) (A : Option Addr) (n c : Nat) : Calls Try.prog 10 #[dp p, bnV b A n c] W (Good W (chkT (chkG G b))) := by
  obtain ⟨m, F, h1, rfl, _⟩ := h
  rw [← chk_abs]
  exact check_c p m F b A n c W h1
theorem PI.epoch {W : World} {p : Nat} {G : List GH} {S : Nat → Prop} (h : PI p G W S) (n : Int) (hn : i64B n) : Calls Try.prog 14 #[dp p, .int .i64 n] W (Good W (.int .i64 (epoG G n))) := by
  obtain ⟨m, F, h1, rfl, _⟩ := h
  rw [← epo_abs]
  exact epoch_c p m F n W h1 hn
theorem PI.print {W : World} {p : Nat} {G : List GH} {S : Nat → Prop} (h : PI p G W S) (hG : GOk G) (hl : G.length ≤ 1000000) : Calls Try.prog 17 #[dp p] W (Good W (.string ⟨(printL G).toArray⟩)) := by
  obtain ⟨m, F, h1, rfl, _⟩ := h
  exact print_c p m F W h1 (by rw [absF_len] at hl; exact hl) hG
/-- What Parse of a text hands back. -/
def GotPO (W w : World) (s : ByteArray) (en : Ending) (w' : World) : Prop :=
  (paE s ≠ 0 ∧ en = .returned (.tuple #[.pointer none, .int .i64 (paE s)]) ∧ Below w.heap.size w w') ∨ (paE s = 0 ∧ ∃ p, en = .returned (.tuple #[dp p, .int .i64 0]) ∧ PO W p (psR s 0 0).1 w' ∧ Below w.heap.size w w')
theorem parse_po {W w : World} (s : ByteArray) (hb : Below W.heap.size W w) (hs : s.size ≤ 1152921504606846976) : Calls Try.prog 16 #[.string s] w (GotPO W w s) := by
  refine (parse_c s w hs).mono ?_
  rintro e w' ⟨h1, h | ⟨h, p, m, F, rfl, k1, k2, k3, k4, k5, k6⟩⟩
  · exact .inl ⟨h.1, h.2, h1⟩
  · have hz := hb.size
    exact .inr ⟨h, p, rfl, ⟨⟨m, F, k1, k2, by omega, (fun k hk => by have := k6 k hk; omega), (fun y hy => by have := k5 y hy; omega)⟩, (print_parse h).2.1, hb.trans (h1.mono hz)⟩, h1⟩
/-- Parse of what was printed. -/
theorem parse_back {W w : World} {G : List GH} (hG : GOk G) (hl : G.length ≤ 10000) (hb : Below W.heap.size W w) : Calls Try.prog 16 #[.string ⟨(printL G).toArray⟩] w (fun en w' => ∃ p, en = .returned (.tuple #[dp p, .int .i64 0]) ∧ PO W p G w' ∧ Below w.heap.size w w') := by
  obtain ⟨e1, e2⟩ := parse_print hG hl
  have hsz : (⟨(printL G).toArray⟩ : ByteArray).size ≤ 1152921504606846976 := by
    have h1 := prK_len G G.length (fun y hy => (hG.ghb hy).2.2.1.2)
    rw [prK_end G (Nat.le_refl _)] at h1
    show (printL G).toArray.size ≤ _
    rw [List.size_toArray]
    omega
  refine (parse_po ⟨(printL G).toArray⟩ hb hsz).mono ?_
  rintro e w' (⟨h, _⟩ | ⟨_, p, rfl, h, hb2⟩)
  · exact absurd e1 h
  · rw [e2] at h
    exact ⟨p, rfl, h, hb2⟩
end Go.Proofs.Ytdhakekndinbeaa
