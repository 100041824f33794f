/- One call on both disks. No condition. -/
import Derived.Test.YtpdimmkacjilgaaKdCrash
namespace Go.Proofs.Ytpdimmkacjilgaa
open Go.RowKit Go.Maps Go.ChangeMaps Go.WideMaps Go.Shelf
set_option linter.unusedVariables false
attribute [local go_sem ↓] Go.wp_at_zero Go.wp_at_succ
theorem kcrash_c (q : Nat) (a : Ab) (S : Nat → Prop) (W : World) (h : KIs W q a S) (ha : AbOk a) (hlen : a.L.length ≤ 1000000) (ad : Option Addr) (c : Nat) (keep : List Int) (hkl : keep.length ≤ 9223372036854775807) (hk : KeepIn W S ad c keep) :
    Calls Try.prog 32 #[dp q, .slice ad keep.length c] W (KDoes W q S (.int .i64 ((tearL keep 0 a.L).2 : Int)) (crashA a keep)) := by
  obtain ⟨v, h, hq, hvS⟩ := h
  obtain ⟨nb, cap, rfl⟩ := h.slice
  exact kcrash_some q a S W nb cap h hq hvS ha hlen ad c keep hkl hk
/-- Both disks, and a box that neither has. -/
def Pr (W : World) (p : Nat) (a : Ab) (q : Nat) (b : Ab) (B : Nat) (cs : Array Value) (w : World) : Prop :=
  ∃ S T : Nat → Prop, Is w p a S ∧ KIs w q b T ∧ (∀ k, S k → ¬ T k) ∧ (∀ k, S k → W.heap.size ≤ k) ∧ (∀ k, T k → W.heap.size ≤ k) ∧ Below W.heap.size W w ∧ Box w B 34 cs ∧ ¬ S B ∧ ¬ T B
section
variable {W w : World} {p q B : Nat} {a b a' b' : Ab} {cs : Array Value} {P : Program} {f : FuncId} {args : Array Value} {v : Value}
theorem Pr.drew (h : Pr W p a q b B cs w) : Pr W p a q b B cs w.drew := by
  obtain ⟨S, T, h1, h2, h3, h4, h5, h6, h7, h8, h9⟩ := h
  exact ⟨S, T, h1.later (Below.refl _ _).drew, h2.off (T := fun _ => False) ((Off.refl _ _).drew) (fun _ _ x => x), h3, h4, h5, h6.drew, h7, h8, h9⟩
theorem Pr.boxed (h : Pr W p a q b B cs w) : Box w B 34 cs := by
  obtain ⟨S, T, h1, h2, h3, h4, h5, h6, h7, h8, h9⟩ := h
  exact h7
theorem Pr.below (h : Pr W p a q b B cs w) : Below W.heap.size W w := by
  obtain ⟨S, T, h1, h2, h3, h4, h5, h6, h7, h8, h9⟩ := h
  exact h6
theorem Pr.ok (h : Pr W p a q b B cs w) : AbOk a := by
  obtain ⟨S, T, h1, h2, h3, h4, h5, h6, h7, h8, h9⟩ := h
  exact h1.ok
theorem pr_disk (h : Pr W p a q b B cs w) (hc : ∀ S, (∀ k, S k → W.heap.size ≤ k) → Is w p a S → Calls P f args w (Does w p S v a')) : Calls P f args w (fun e w' => e = .returned v ∧ Pr W p a' q b B cs w') := by
  obtain ⟨S, T, h1, h2, h3, h4, h5, h6, h7, h8, h9⟩ := h
  refine (hc _ (fun k hk => h4 k hk.1) h1.tight).mono ?_
  rintro e w' ⟨rfl, hI, ho⟩
  have hs := h6.size
  have hBl := h7.lt
  refine ⟨rfl, _, _, hI, h2.tight.off ho (fun k hk hx => h3 k hx.1 hk.1), fun k hk hx => ?_, fun k hk => ?_, fun k hk => h5 k hk.1, h6.trans (ho.below hs fun k hk => h4 k hk.1), h7.off ho (fun hk => h8 hk.1), fun hk => ?_, fun hk => h9 hk.1⟩
  · rcases hk with hk | hk
    · exact h3 k hk.1 hx.1
    · have := hx.2; omega
  · rcases hk with hk | hk
    · exact h4 k hk.1
    · omega
  · rcases hk with hk | hk
    · exact h8 hk.1
    · omega
theorem pr_kd (h : Pr W p a q b B cs w) (hc : ∀ T, (∀ k, T k → W.heap.size ≤ k) → KIs w q b T → Calls P f args w (KDoes w q T v b')) : Calls P f args w (fun e w' => e = .returned v ∧ Pr W p a q b' B cs w') := by
  obtain ⟨S, T, h1, h2, h3, h4, h5, h6, h7, h8, h9⟩ := h
  refine (hc _ (fun k hk => h5 k hk.1) h2.tight).mono ?_
  rintro e w' ⟨rfl, hI, ho⟩
  have hs := h6.size
  have hBl := h7.lt
  refine ⟨rfl, _, _, h1.tight.off ho (fun k _ hk hx => h3 k hk.1 hx.1), hI, fun k hk hx => ?_, fun k hk => h4 k hk.1, fun k hk => ?_, h6.trans (ho.below hs fun k hk => h5 k hk.1), h7.off ho (fun hk => h9 hk.1), fun hk => h8 hk.1, fun hk => ?_⟩
  · rcases hx with hx | hx
    · exact h3 k hk.1 hx.1
    · have := hk.2; omega
  · rcases hk with hk | hk
    · exact h5 k hk.1
    · omega
  · rcases hk with hk | hk
    · exact h9 hk.1
    · omega
end
/-- Both disks alone. -/
def Pr0 (W : World) (p : Nat) (a : Ab) (q : Nat) (w : World) : Prop :=
  ∃ S T : Nat → Prop, Is w p a S ∧ KIs w q a T ∧ (∀ k, S k → ¬ T k) ∧ (∀ k, S k → W.heap.size ≤ k) ∧ (∀ k, T k → W.heap.size ≤ k) ∧ Below W.heap.size W w
theorem Pr.drop {W w : World} {p q B : Nat} {a : Ab} {cs : Array Value} (h : Pr W p a q a B cs w) : Pr0 W p a q w := by
  obtain ⟨S, T, h1, h2, h3, h4, h5, h6, h7, h8, h9⟩ := h
  exact ⟨S, T, h1, h2, h3, h4, h5, h6⟩
theorem Pr0.boxed {W w : World} {p q : Nat} {a : Ab} (h : Pr0 W p a q w) (cs : Array Value) : Pr W p a q a w.heap.size cs (w.alloc (.cells cs 34)) := by
  obtain ⟨S, T, h1, h2, h3, h4, h5, h6⟩ := h
  have hb : Below w.heap.size w (w.alloc (.cells cs 34)) := (Below.refl _ _).alloc (Nat.le_refl _) _
  exact ⟨_, _, h1.tight.later hb, h2.tight.off (Off.of_below (fun _ => False) hb) (fun _ _ x => x), fun k hk hx => h3 k hk.1 hx.1, fun k hk => h4 k hk.1, fun k hk => h5 k hk.1, h6.trans (hb.mono h6.size), Box.new _ _ _, fun hk => Nat.lt_irrefl _ hk.2, fun hk => Nat.lt_irrefl _ hk.2⟩
/-- What a step leaves. -/
def Steps (W : World) (a : Ab) (e : Ending) (w' : World) : Prop := ∃ p q a', e = .returned (.tuple #[dp p, dp q, .bool true]) ∧ Pr0 W p a' q w' ∧ a'.L.length ≤ a.L.length + 1
theorem app_len (a : Ab) (n s : ByteArray) : (appA a n s).L.length ≤ a.L.length + 1 := by
  unfold appA
  split
  · simp only
    split
    · rw [setL_len]; omega
    · rw [insL_len]; omega
  · omega
def opC (o : OpR) : Array Value := #[.int .i64 o.do_, .string o.name, .string o.text, .int .i64 o.n, .slice o.at_ o.keep.length o.c]
theorem sync_len (a : Ab) (n : List UInt8) : (syncA a n).L.length ≤ a.L.length + 1 := by
  unfold syncA
  split
  · simp only; rw [setL_len]; omega
  · omega
theorem cut_len (a : Ab) (n : List UInt8) (k : Int) : (cutA a n k).L.length ≤ a.L.length + 1 := by
  unfold cutA
  split
  · split
    · omega
    · simp only; rw [setL_len]; omega
  · omega
theorem delL_len (L : List AF) (n : List UInt8) : (delL L n).length ≤ L.length := by unfold delL; exact List.length_filter_le _ _
theorem ren_len (a : Ab) (o n : ByteArray) : (renA a o n).L.length ≤ a.L.length + 1 := by
  unfold renA
  split
  · simp only
    split
    · omega
    · rw [insL_len]
      have h1 := delL_len (delL a.L n.data.toList) o.data.toList
      have h2 := delL_len a.L n.data.toList
      omega
  · omega
theorem drop_len (a : Ab) (n : List UInt8) : (dropA a n).L.length ≤ a.L.length + 1 := by
  unfold dropA
  split
  · have := delL_len a.L n
    show (delL a.L n).length ≤ _
    omega
  · omega
theorem tear_len (keep : List Int) : ∀ (L : List AF) (t : Nat), (tearL keep t L).1.length = L.length
  | [], _ => rfl
  | x :: r, t => by
    rw [tearL]
    split
    · simp [tear_len keep r t]
    · simp [tear_len keep r (t + 1)]
theorem crash_len (a : Ab) (keep : List Int) : (crashA a keep).L.length ≤ a.L.length + 1 := by
  show (tearL keep 0 a.L).1.length ≤ _
  rw [tear_len]
  omega
theorem keep_pr {W w : World} {S : Nat → Prop} {ad : Option Addr} {c : Nat} {keep : List Int} (h : KeepIn W (fun k => W.heap.size ≤ k) ad c keep) (hb : Below W.heap.size W w) (hS : ∀ k, S k → W.heap.size ≤ k) : KeepIn w S ad c keep := by
  have h2 := h.off (Off.of_below (fun _ => False) hb) (fun _ _ x => x.elim)
  refine ⟨h2.1, fun hp => ?_⟩
  obtain ⟨b, off, q1, q2, q3, q4⟩ := h2.2 hp
  exact ⟨b, off, q1, q2, fun hs => q3 (hS b hs), q4⟩
set_option maxHeartbeats 8000000 in
set_option maxRecDepth 100000 in
theorem step_0 (W w : World) (p q : Nat) (a : Ab) (o : OpR) (hi : OpIn W o) (h : Pr0 W p a q w) (hlen : a.L.length ≤ 1000) (hd : o.do_ = 0) :
    Calls Try.prog 11 #[dp p, dp q, opV o] w (Steps W a) := by
  have hP := h.boxed (opC o)
  have ha := hP.ok
  obtain ⟨i1, i2, i3, i4, i5⟩ := hi
  obtain ⟨dd, name, text, n, ad, c, keep⟩ := o
  simp only at hd i1 i2 i3 i4 i5
  subst hd
  have i1' : name.size ≤ maxLen := by unfold maxLen; omega
  have cd := pr_disk hP.drew (fun S hS hI => app_do p a S _ name text i1 (by omega) hI (by omega))
  have ck := fun (w' : World) (hp : Pr W p (appA a name text) q a w.heap.size (opC ⟨0, name, text, n, ad, c, keep⟩) w') => pr_kd hp (fun T hT hK => kapp_c q a T name text w' hK ha (by omega) i1 i2)
  have b1 := (hP.boxed.cell 1).trans rfl
  have b2 := (hP.boxed.cell 2).trans rfl
  have hlenA := app_len a name text
  unfold opC at *
  simp only [List.getElem?_toArray, List.getElem?_cons_zero, List.getElem?_cons_succ] at *
  unfold opV dp at *
  simp only
  clear h hP
  go_enter Try.func11, Try.ntmps11
  generalize appE a name text = v at *
  generalize appA a name text = a' at *
  have xk : ∀ w' b, Pr W p a' q b w.heap.size #[.int .i64 0, .string name, .string text, .int .i64 n, .slice ad keep.length c] w' → w'.cell? ⟨w.heap.size, 1, none⟩ = some (.string name) ∧ w'.cell? ⟨w.heap.size, 2, none⟩ = some (.string text) := fun w' b hp => ⟨(hp.boxed.cell 1).trans rfl, (hp.boxed.cell 2).trans rfl⟩
  go_wp2_with fail
  go_region_held3 (fun w' => w'.cell? ⟨w.heap.size, 1, none⟩ = some (.string name) ∧ w'.cell? ⟨w.heap.size, 2, none⟩ = some (.string text))
    (first | exact ⟨b1, b2⟩ | exact xk _ _ (by assumption))
    (first
      | ((with_reducible refine cd.mono ?_); rintro e w1 ⟨rfl, hp1⟩)
      | ((with_reducible refine (ck _ (by assumption)).mono ?_); rintro e w2 ⟨rfl, hp2⟩))
  go_wp2
  go_ret3
  exact ⟨p, q, a', rfl, hp2.drop, by omega⟩
set_option maxHeartbeats 8000000 in
set_option maxRecDepth 100000 in
theorem step_1 (W w : World) (p q : Nat) (a : Ab) (o : OpR) (hi : OpIn W o) (h : Pr0 W p a q w) (hlen : a.L.length ≤ 1000) (hd : o.do_ = 1) :
    Calls Try.prog 11 #[dp p, dp q, opV o] w (Steps W a) := by
  have hP := h.boxed (opC o)
  have ha := hP.ok
  obtain ⟨i1, i2, i3, i4, i5⟩ := hi
  obtain ⟨dd, name, text, n, ad, c, keep⟩ := o
  simp only at hd i1 i2 i3 i4 i5
  subst hd
  have i1' : name.size ≤ maxLen := by unfold maxLen; omega
  have cd := pr_disk hP.drew (fun S hS hI => sync_do p a S _ name i1' hI)
  have ck := fun (w' : World) (hp : Pr W p (syncA a name.data.toList) q a w.heap.size (opC ⟨1, name, text, n, ad, c, keep⟩) w') => pr_kd hp (fun T hT hK => ksync_c q a T name w' hK ha (by omega))
  have b1 := (hP.boxed.cell 1).trans rfl
  have hlenA := sync_len a name.data.toList
  unfold opC at *
  simp only [List.getElem?_toArray, List.getElem?_cons_zero, List.getElem?_cons_succ] at *
  unfold opV dp at *
  simp only
  clear h hP
  go_enter Try.func11, Try.ntmps11
  generalize seeE a name.data.toList = v at *
  generalize syncA a name.data.toList = a' at *
  have xk : ∀ w' b, Pr W p a' q b w.heap.size #[.int .i64 1, .string name, .string text, .int .i64 n, .slice ad keep.length c] w' → w'.cell? ⟨w.heap.size, 1, none⟩ = some (.string name) := fun w' b hp => (hp.boxed.cell 1).trans rfl
  go_wp2_with fail
  go_region_held3 (fun w' => w'.cell? ⟨w.heap.size, 1, none⟩ = some (.string name))
    (first | exact b1 | exact xk _ _ (by assumption))
    (first
      | ((with_reducible refine cd.mono ?_); rintro e w1 ⟨rfl, hp1⟩)
      | ((with_reducible refine (ck _ (by assumption)).mono ?_); rintro e w2 ⟨rfl, hp2⟩))
  go_wp2
  go_ret3
  exact ⟨p, q, a', rfl, hp2.drop, by omega⟩
set_option maxHeartbeats 8000000 in
set_option maxRecDepth 100000 in
theorem step_3 (W w : World) (p q : Nat) (a : Ab) (o : OpR) (hi : OpIn W o) (h : Pr0 W p a q w) (hlen : a.L.length ≤ 1000) (hd : o.do_ = 3) :
    Calls Try.prog 11 #[dp p, dp q, opV o] w (Steps W a) := by
  have hP := h.boxed (opC o)
  have ha := hP.ok
  obtain ⟨i1, i2, i3, i4, i5⟩ := hi
  obtain ⟨dd, name, text, n, ad, c, keep⟩ := o
  simp only at hd i1 i2 i3 i4 i5
  subst hd
  have i1' : name.size ≤ maxLen := by unfold maxLen; omega
  have cd := pr_disk hP.drew (fun S hS hI => cut_do p a S _ name n i1' hI)
  have ck := fun (w' : World) (hp : Pr W p (cutA a name.data.toList n) q a w.heap.size (opC ⟨3, name, text, n, ad, c, keep⟩) w') => pr_kd hp (fun T hT hK => kcut_c q a T name n w' hK ha (by omega))
  have b1 := (hP.boxed.cell 1).trans rfl
  have b3 := (hP.boxed.cell 3).trans rfl
  have hlenA := cut_len a name.data.toList n
  unfold opC at *
  simp only [List.getElem?_toArray, List.getElem?_cons_zero, List.getElem?_cons_succ] at *
  unfold opV dp at *
  simp only
  clear h hP
  go_enter Try.func11, Try.ntmps11
  generalize cutE a name.data.toList n = v at *
  generalize cutA a name.data.toList n = a' at *
  have xk : ∀ w' b, Pr W p a' q b w.heap.size #[.int .i64 3, .string name, .string text, .int .i64 n, .slice ad keep.length c] w' → w'.cell? ⟨w.heap.size, 1, none⟩ = some (.string name) ∧ w'.cell? ⟨w.heap.size, 3, none⟩ = some (.int .i64 n) := fun w' b hp => ⟨(hp.boxed.cell 1).trans rfl, (hp.boxed.cell 3).trans rfl⟩
  go_wp2_with fail
  go_region_held3 (fun w' => w'.cell? ⟨w.heap.size, 1, none⟩ = some (.string name) ∧ w'.cell? ⟨w.heap.size, 3, none⟩ = some (.int .i64 n))
    (first | exact ⟨b1, b3⟩ | exact xk _ _ (by assumption))
    (first
      | ((with_reducible refine cd.mono ?_); rintro e w1 ⟨rfl, hp1⟩)
      | ((with_reducible refine (ck _ (by assumption)).mono ?_); rintro e w2 ⟨rfl, hp2⟩))
  go_wp2
  go_ret3
  exact ⟨p, q, a', rfl, hp2.drop, by omega⟩
set_option maxHeartbeats 8000000 in
set_option maxRecDepth 100000 in
theorem step_4 (W w : World) (p q : Nat) (a : Ab) (o : OpR) (hi : OpIn W o) (h : Pr0 W p a q w) (hlen : a.L.length ≤ 1000) (hd : o.do_ = 4) :
    Calls Try.prog 11 #[dp p, dp q, opV o] w (Steps W a) := by
  have hP := h.boxed (opC o)
  have ha := hP.ok
  obtain ⟨i1, i2, i3, i4, i5⟩ := hi
  obtain ⟨dd, name, text, n, ad, c, keep⟩ := o
  simp only at hd i1 i2 i3 i4 i5
  subst hd
  have i1' : name.size ≤ maxLen := by unfold maxLen; omega
  have cd := pr_disk hP.drew (fun S hS hI => ren_do p a S _ name text i1 i2 hI (by omega))
  have ck := fun (w' : World) (hp : Pr W p (renA a name text) q a w.heap.size (opC ⟨4, name, text, n, ad, c, keep⟩) w') => pr_kd hp (fun T hT hK => kren_c q a T name text w' hK ha (by omega) i2)
  have b1 := (hP.boxed.cell 1).trans rfl
  have b2 := (hP.boxed.cell 2).trans rfl
  have hlenA := ren_len a name text
  unfold opC at *
  simp only [List.getElem?_toArray, List.getElem?_cons_zero, List.getElem?_cons_succ] at *
  unfold opV dp at *
  simp only
  clear h hP
  go_enter Try.func11, Try.ntmps11
  generalize renE a name text = v at *
  generalize renA a name text = a' at *
  have xk : ∀ w' b, Pr W p a' q b w.heap.size #[.int .i64 4, .string name, .string text, .int .i64 n, .slice ad keep.length c] w' → w'.cell? ⟨w.heap.size, 1, none⟩ = some (.string name) ∧ w'.cell? ⟨w.heap.size, 2, none⟩ = some (.string text) := fun w' b hp => ⟨(hp.boxed.cell 1).trans rfl, (hp.boxed.cell 2).trans rfl⟩
  go_wp2_with fail
  go_region_held3 (fun w' => w'.cell? ⟨w.heap.size, 1, none⟩ = some (.string name) ∧ w'.cell? ⟨w.heap.size, 2, none⟩ = some (.string text))
    (first | exact ⟨b1, b2⟩ | exact xk _ _ (by assumption))
    (first
      | ((with_reducible refine cd.mono ?_); rintro e w1 ⟨rfl, hp1⟩)
      | ((with_reducible refine (ck _ (by assumption)).mono ?_); rintro e w2 ⟨rfl, hp2⟩))
  go_wp2
  go_ret3
  exact ⟨p, q, a', rfl, hp2.drop, by omega⟩
set_option maxHeartbeats 8000000 in
set_option maxRecDepth 100000 in
theorem step_5 (W w : World) (p q : Nat) (a : Ab) (o : OpR) (hi : OpIn W o) (h : Pr0 W p a q w) (hlen : a.L.length ≤ 1000) (hd : o.do_ = 5) :
    Calls Try.prog 11 #[dp p, dp q, opV o] w (Steps W a) := by
  have hP := h.boxed (opC o)
  have ha := hP.ok
  obtain ⟨i1, i2, i3, i4, i5⟩ := hi
  obtain ⟨dd, name, text, n, ad, c, keep⟩ := o
  simp only at hd i1 i2 i3 i4 i5
  subst hd
  have i1' : name.size ≤ maxLen := by unfold maxLen; omega
  have cd := pr_disk hP.drew (fun S hS hI => drop_do p a S _ name i1' hI)
  have ck := fun (w' : World) (hp : Pr W p (dropA a name.data.toList) q a w.heap.size (opC ⟨5, name, text, n, ad, c, keep⟩) w') => pr_kd hp (fun T hT hK => kdrop_c q a T name w' hK ha (by omega))
  have b1 := (hP.boxed.cell 1).trans rfl
  have hlenA := drop_len a name.data.toList
  unfold opC at *
  simp only [List.getElem?_toArray, List.getElem?_cons_zero, List.getElem?_cons_succ] at *
  unfold opV dp at *
  simp only
  clear h hP
  go_enter Try.func11, Try.ntmps11
  generalize seeE a name.data.toList = v at *
  generalize dropA a name.data.toList = a' at *
  have xk : ∀ w' b, Pr W p a' q b w.heap.size #[.int .i64 5, .string name, .string text, .int .i64 n, .slice ad keep.length c] w' → w'.cell? ⟨w.heap.size, 1, none⟩ = some (.string name) := fun w' b hp => (hp.boxed.cell 1).trans rfl
  go_wp2_with fail
  go_region_held3 (fun w' => w'.cell? ⟨w.heap.size, 1, none⟩ = some (.string name))
    (first | exact b1 | exact xk _ _ (by assumption))
    (first
      | ((with_reducible refine cd.mono ?_); rintro e w1 ⟨rfl, hp1⟩)
      | ((with_reducible refine (ck _ (by assumption)).mono ?_); rintro e w2 ⟨rfl, hp2⟩))
  go_wp2
  go_ret3
  exact ⟨p, q, a', rfl, hp2.drop, by omega⟩
set_option maxHeartbeats 8000000 in
set_option maxRecDepth 100000 in
theorem step_7 (W w : World) (p q : Nat) (a : Ab) (o : OpR) (hi : OpIn W o) (h : Pr0 W p a q w) (hlen : a.L.length ≤ 1000) (hd : o.do_ = 7) :
    Calls Try.prog 11 #[dp p, dp q, opV o] w (Steps W a) := by
  have hP := h.boxed (opC o)
  have ha := hP.ok
  obtain ⟨i1, i2, i3, i4, i5⟩ := hi
  obtain ⟨dd, name, text, n, ad, c, keep⟩ := o
  simp only at hd i1 i2 i3 i4 i5
  subst hd
  have i1' : name.size ≤ maxLen := by unfold maxLen; omega
  have cd := pr_disk hP.drew (fun S hS hI => crash_do p a S _ hI (by omega) ad c keep i5 (keep_pr i4 hP.drew.below hS))
  have ck := fun (w' : World) (hp : Pr W p (crashA a keep) q a w.heap.size (opC ⟨7, name, text, n, ad, c, keep⟩) w') => pr_kd hp (fun T hT hK => kcrash_c q a T w' hK ha (by omega) ad c keep i5 (keep_pr i4 hp.below hT))
  have b4 := (hP.boxed.cell 4).trans rfl
  have hlenA := crash_len a keep
  unfold opC at *
  simp only [List.getElem?_toArray, List.getElem?_cons_zero, List.getElem?_cons_succ] at *
  unfold opV dp at *
  simp only
  clear h hP
  go_enter Try.func11, Try.ntmps11
  generalize ((tearL keep 0 a.L).2 : Int) = v at *
  generalize crashA a keep = a' at *
  have xk : ∀ w' b, Pr W p a' q b w.heap.size #[.int .i64 7, .string name, .string text, .int .i64 n, .slice ad keep.length c] w' → w'.cell? ⟨w.heap.size, 4, none⟩ = some (.slice ad keep.length c) := fun w' b hp => (hp.boxed.cell 4).trans rfl
  go_wp2_with fail
  go_region_held3 (fun w' => w'.cell? ⟨w.heap.size, 4, none⟩ = some (.slice ad keep.length c))
    (first | exact b4 | exact xk _ _ (by assumption))
    (first
      | ((with_reducible refine cd.mono ?_); rintro e w1 ⟨rfl, hp1⟩)
      | ((with_reducible refine (ck _ (by assumption)).mono ?_); rintro e w2 ⟨rfl, hp2⟩))
  go_wp2
  go_ret3
  exact ⟨p, q, a', rfl, hp2.drop, by omega⟩
end Go.Proofs.Ytpdimmkacjilgaa
