/- index: Find and Seek, of an index and of none. No condition. -/
import Derived.Test.YtljgiabaekddlaaIxFd
namespace Go.Proofs.Ytljgiabaekddlaa
open Go.RowKit
set_option linter.unusedVariables false
/-- Entries rise. -/
def Srt (L : List En) : Prop := L.Pairwise fun e f => e.1 < f.1 ∧ e.2.1 < f.2.1 ∧ e.2.2 ≤ f.2.2
theorem Srt.le {L : List En} (h : Srt L) {i j : Nat} {e f : En} (hij : i ≤ j) (he : L[i]? = some e) (hf : L[j]? = some f) : e.1 ≤ f.1 ∧ e.2.1 ≤ f.2.1 ∧ e.2.2 ≤ f.2.2 := by
  rcases Nat.eq_or_lt_of_le hij with rfl | hlt
  · rw [he] at hf
    injection hf with hf
    subst hf
    exact ⟨Int.le_refl _, Int.le_refl _, Int.le_refl _⟩
  · obtain ⟨hi, rfl⟩ := List.getElem?_eq_some_iff.1 he
    obtain ⟨hj, rfl⟩ := List.getElem?_eq_some_iff.1 hf
    have := List.pairwise_iff_getElem.1 h i j hi hj hlt
    omega
def qF (off : Int) (e : En) : Bool := decide (off < e.1)
def qS (off : Int) (e : En) : Bool := decide (off ≤ e.2.2)
def atE (L : List En) (i : Nat) : En := (L[i]?).getD (0, 0, 0)
theorem atE_some {L : List En} {i : Nat} (h : i < L.length) : L[i]? = some (atE L i) := by
  unfold atE
  rw [List.getElem?_eq_getElem h]
  rfl
theorem qF_mono {L : List En} (h : Srt L) (off : Int) : ∀ i j, i ≤ j → j < L.length → qF off (atE L i) = true → qF off (atE L j) = true := by
  intro i j hij hj hq
  have := h.le hij (atE_some (by omega)) (atE_some hj)
  unfold qF at *
  simp only [decide_eq_true_eq] at *
  omega
theorem qS_mono {L : List En} (h : Srt L) (off : Int) : ∀ i j, i ≤ j → j < L.length → qS off (atE L i) = true → qS off (atE L j) = true := by
  intro i j hij hj hq
  have := h.le hij (atE_some (by omega)) (atE_some hj)
  unfold qS at *
  simp only [decide_eq_true_eq] at *
  omega
theorem aheadG_of {L : List En} {Q : En → Bool} {r : Nat} (hr : r ≤ L.length) (h0 : ∀ k, k < r → Q (atE L k) = false) (h1 : ∀ k, r ≤ k → k < L.length → Q (atE L k) = true) : aheadG L Q = if r = 0 then 0 else (atE L (r - 1)).2.1 := by
  refine aheadG_at hr (fun k e hk he => ?_) (fun k e hk he => ?_)
  · have := h0 k hk
    unfold atE at this
    rwa [he] at this
  · have hkl := (List.getElem?_eq_some_iff.1 he).1
    have := h1 k hk hkl
    unfold atE at this
    rwa [he] at this
set_option maxHeartbeats 4000000 in
set_option maxRecDepth 100000 in
theorem aheadF_c (x : Ix) (A : Option Addr) (c base b P : Nat) (off : Int) (W : World) (h : IxIs W base b x A c) (hP : W.cell? ⟨P, 0, none⟩ = some (.int .i64 off)) (hl : P < W.heap.size) (hn : x.L.length ≤ 1000000) (hs : Srt x.L) :
    Calls Try.prog 22 #[.pointer (some ⟨b, 0, none⟩), .func (.func 23) #[] #[.pointer (some ⟨P, 0, none⟩)]] W (Good W (.int .i64 (aheadG x.L (qF off)))) := by
  obtain ⟨W1, hW1⟩ : ∃ w, (W.alloc (.cells #[.pointer (some ⟨b, 0, none⟩)] 23)).alloc (.cells #[.func (.func 23) #[] #[.pointer (some ⟨P, 0, none⟩)]] 56) = w := ⟨_, rfl⟩
  have HA : Hid (Below W.heap.size W W1 ∧ Box W1 W.heap.size 23 #[.pointer (some ⟨b, 0, none⟩)] ∧ Box W1 (W.heap.size + 1) 56 #[.func (.func 23) #[] #[.pointer (some ⟨P, 0, none⟩)]] ∧ W1.heap.size = W.heap.size + 1 + 1) := Lib.hid (by
    rw [← hW1]
    refine ⟨((Below.refl _ W).alloc (Nat.le_refl _) _).alloc (by simp) _, (Box.new W _ _).alloc _, ?_, by simp⟩
    have := Box.new (W.alloc (.cells #[.pointer (some ⟨b, 0, none⟩)] 23)) 56 #[.func (.func 23) #[] #[.pointer (some ⟨P, 0, none⟩)]]
    rwa [World.size_alloc] at this)
  have y0 := (HA.out.2.1.cell 0).trans (show _ = some (Value.pointer (some ⟨b, 0, none⟩)) from rfl)
  have hX1 := h.later HA.out.1
  obtain ⟨c0, c1, c2, c3, f0, f1, f2, f3⟩ := hX1.cells
  have hP1 : W1.cell? ⟨P, 0, none⟩ = some (.int .i64 off) := (HA.out.1.cell (p := ⟨P, 0, none⟩) hl).trans hP
  have hsr := search_c x.L.length (W.heap.size + 1) W.heap.size (fun i => qF off (atE x.L i)) W1 hn (fun i hi w hb => by
    have := findA_c x A c base b P (W.heap.size + 1) W.heap.size i off (atE x.L i) w (hX1.later hb) ((hb.cell (p := ⟨P, 0, none⟩) (Nat.lt_of_lt_of_le hl HA.out.1.size)).trans hP1) (Nat.lt_of_lt_of_le (Nat.lt_of_lt_of_le hl HA.out.1.size) hb.size)
      (((HA.out.2.2.1.later hb).cell 0).trans rfl) (HA.out.2.2.1.later hb).lt (((HA.out.2.1.later hb).cell 0).trans rfl) (HA.out.2.1.later hb).lt (atE_some hi) hn
    exact this) (qF_mono hs off)
  have HX := Lib.hid hX1
  obtain ⟨res, hres⟩ : ∃ res, aheadG x.L (qF off) = res := ⟨_, rfl⟩
  have HRES := Lib.hid hres
  rw [hres]
  clear hres
  unfold GotSearch at hsr
  have hxl := hn
  clear h hX1 hP hP1 c0 c2 c3 f0 f1 f2 f3
  go_enter Try.func22, Try.ntmps22
  go_wp2_with fail
  (with_reducible refine hsr.mono ?_)
  rintro e w2 ⟨r, rfl, hr, hlo, hhi, hb2⟩
  have hag := aheadG_of (Q := qF off) hr hlo hhi
  have H2 := Lib.hid (And.intro (HA.out.1.trans (hb2.mono HA.out.1.size)) (And.intro (HA.out.2.1.later hb2) (HX.out.later hb2)))
  clear hlo hhi hb2 hsr y0 c1 hW1
  by_cases h0 : r = 0
  · subst h0
    have hz : res = 0 := by rw [← HRES.out, hag, if_pos rfl]
    subst hz
    clear hag
    go_wp2_with fail
    go_ret
    exact ⟨rfl, H2.out.1⟩
  · have h0' : ((r : Int) == 0) = false := by rw [beq_eq_false_iff_ne]; omega
    rw [if_neg h0, HRES.out] at hag
    obtain ⟨g, rfl, q0, q1, hg, hcap⟩ := H2.out.2.2.entry (atE_some (L := x.L) (i := r - 1) (by omega))
    have hoke := H2.out.2.2.oks _ (List.mem_of_getElem? (atE_some (L := x.L) (i := r - 1) (by omega)))
    obtain ⟨c0, c1, _⟩ := H2.out.2.2.cells
    have y0 := (H2.out.2.1.cell 0).trans (show _ = some (Value.pointer (some ⟨b, 0, none⟩)) from rfl)
    have ct := fun w => told_c (atE x.L (r - 1)).1 (atE x.L (r - 1)).2.1 (atE x.L (r - 1)).2.2 w hoke.1 hoke.2
    have hfd := field_1 (atE x.L (r - 1)).1 (atE x.L (r - 1)).2.1 (atE x.L (r - 1)).2.2
    have n1 : (r : Int) - 1 = ((r - 1 : Nat) : Int) := by omega
    generalize atE x.L (r - 1) = e at *
    obtain ⟨o, q, t⟩ := e
    simp only at q0 q1 ct hfd hag
    have HG := Lib.hid hag
    clear hag
    have j0 : (0 : Int) ≤ ((r - 1 : Nat) : Int) := by omega
    have j1 : ((r - 1 : Nat) : Int) < (x.L.length : Int) := by omega
    have hr6 : r ≤ 1000000 := by omega
    generalize r - 1 = j at *
    clear c0 hoke
    generalize fl o = zo at *
    generalize fl q = zq at *
    go_wp2_with fail
    (with_reducible refine (ct _).mono ?_)
    rintro e w3 ⟨rfl, hb3⟩
    have H3 := Lib.hid (H2.out.1.trans (hb3.mono H2.out.1.size))
    clear hb3 y0 c1 q0 q1
    go_wp2_with fail
    go_ret
    exact ⟨by rw [HG.out]; rfl, H3.out⟩
set_option maxHeartbeats 4000000 in
set_option maxRecDepth 100000 in
theorem aheadS_c (x : Ix) (A : Option Addr) (c base b P : Nat) (off : Int) (W : World) (h : IxIs W base b x A c) (hP : W.cell? ⟨P, 0, none⟩ = some (.int .i64 off)) (hl : P < W.heap.size) (hn : x.L.length ≤ 1000000) (hs : Srt x.L) :
    Calls Try.prog 22 #[.pointer (some ⟨b, 0, none⟩), .func (.func 24) #[] #[.pointer (some ⟨P, 0, none⟩)]] W (Good W (.int .i64 (aheadG x.L (qS off)))) := by
  obtain ⟨W1, hW1⟩ : ∃ w, (W.alloc (.cells #[.pointer (some ⟨b, 0, none⟩)] 23)).alloc (.cells #[.func (.func 24) #[] #[.pointer (some ⟨P, 0, none⟩)]] 56) = w := ⟨_, rfl⟩
  have HA : Hid (Below W.heap.size W W1 ∧ Box W1 W.heap.size 23 #[.pointer (some ⟨b, 0, none⟩)] ∧ Box W1 (W.heap.size + 1) 56 #[.func (.func 24) #[] #[.pointer (some ⟨P, 0, none⟩)]] ∧ W1.heap.size = W.heap.size + 1 + 1) := Lib.hid (by
    rw [← hW1]
    refine ⟨((Below.refl _ W).alloc (Nat.le_refl _) _).alloc (by simp) _, (Box.new W _ _).alloc _, ?_, by simp⟩
    have := Box.new (W.alloc (.cells #[.pointer (some ⟨b, 0, none⟩)] 23)) 56 #[.func (.func 24) #[] #[.pointer (some ⟨P, 0, none⟩)]]
    rwa [World.size_alloc] at this)
  have y0 := (HA.out.2.1.cell 0).trans (show _ = some (Value.pointer (some ⟨b, 0, none⟩)) from rfl)
  have hX1 := h.later HA.out.1
  obtain ⟨c0, c1, c2, c3, f0, f1, f2, f3⟩ := hX1.cells
  have hP1 : W1.cell? ⟨P, 0, none⟩ = some (.int .i64 off) := (HA.out.1.cell (p := ⟨P, 0, none⟩) hl).trans hP
  have hsr := search_c x.L.length (W.heap.size + 1) W.heap.size (fun i => qS off (atE x.L i)) W1 hn (fun i hi w hb => by
    have := seekA_c x A c base b P (W.heap.size + 1) W.heap.size i off (atE x.L i) w (hX1.later hb) ((hb.cell (p := ⟨P, 0, none⟩) (Nat.lt_of_lt_of_le hl HA.out.1.size)).trans hP1) (Nat.lt_of_lt_of_le (Nat.lt_of_lt_of_le hl HA.out.1.size) hb.size)
      (((HA.out.2.2.1.later hb).cell 0).trans rfl) (HA.out.2.2.1.later hb).lt (((HA.out.2.1.later hb).cell 0).trans rfl) (HA.out.2.1.later hb).lt (atE_some hi) hn
    exact this) (qS_mono hs off)
  have HX := Lib.hid hX1
  obtain ⟨res, hres⟩ : ∃ res, aheadG x.L (qS off) = res := ⟨_, rfl⟩
  have HRES := Lib.hid hres
  rw [hres]
  clear hres
  unfold GotSearch at hsr
  have hxl := hn
  clear h hX1 hP hP1 c0 c2 c3 f0 f1 f2 f3
  go_enter Try.func22, Try.ntmps22
  go_wp2_with fail
  (with_reducible refine hsr.mono ?_)
  rintro e w2 ⟨r, rfl, hr, hlo, hhi, hb2⟩
  have hag := aheadG_of (Q := qS off) hr hlo hhi
  have H2 := Lib.hid (And.intro (HA.out.1.trans (hb2.mono HA.out.1.size)) (And.intro (HA.out.2.1.later hb2) (HX.out.later hb2)))
  clear hlo hhi hb2 hsr y0 c1 hW1
  by_cases h0 : r = 0
  · subst h0
    have hz : res = 0 := by rw [← HRES.out, hag, if_pos rfl]
    subst hz
    clear hag
    go_wp2_with fail
    go_ret
    exact ⟨rfl, H2.out.1⟩
  · have h0' : ((r : Int) == 0) = false := by rw [beq_eq_false_iff_ne]; omega
    rw [if_neg h0, HRES.out] at hag
    obtain ⟨g, rfl, q0, q1, hg, hcap⟩ := H2.out.2.2.entry (atE_some (L := x.L) (i := r - 1) (by omega))
    have hoke := H2.out.2.2.oks _ (List.mem_of_getElem? (atE_some (L := x.L) (i := r - 1) (by omega)))
    obtain ⟨c0, c1, _⟩ := H2.out.2.2.cells
    have y0 := (H2.out.2.1.cell 0).trans (show _ = some (Value.pointer (some ⟨b, 0, none⟩)) from rfl)
    have ct := fun w => told_c (atE x.L (r - 1)).1 (atE x.L (r - 1)).2.1 (atE x.L (r - 1)).2.2 w hoke.1 hoke.2
    have hfd := field_1 (atE x.L (r - 1)).1 (atE x.L (r - 1)).2.1 (atE x.L (r - 1)).2.2
    have n1 : (r : Int) - 1 = ((r - 1 : Nat) : Int) := by omega
    generalize atE x.L (r - 1) = e at *
    obtain ⟨o, q, t⟩ := e
    simp only at q0 q1 ct hfd hag
    have HG := Lib.hid hag
    clear hag
    have j0 : (0 : Int) ≤ ((r - 1 : Nat) : Int) := by omega
    have j1 : ((r - 1 : Nat) : Int) < (x.L.length : Int) := by omega
    have hr6 : r ≤ 1000000 := by omega
    generalize r - 1 = j at *
    clear c0 hoke
    generalize fl o = zo at *
    generalize fl q = zq at *
    go_wp2_with fail
    (with_reducible refine (ct _).mono ?_)
    rintro e w3 ⟨rfl, hb3⟩
    have H3 := Lib.hid (H2.out.1.trans (hb3.mono H2.out.1.size))
    clear hb3 y0 c1 q0 q1
    go_wp2_with fail
    go_ret
    exact ⟨by rw [HG.out]; rfl, H3.out⟩
set_option maxHeartbeats 4000000 in
set_option maxRecDepth 100000 in
theorem find_c (x : Ix) (A : Option Addr) (c base b : Nat) (off : Int) (W : World) (h : IxIs W base b x A c) (hn : x.L.length ≤ 1000000) (hs : Srt x.L) :
    Calls Try.prog 12 #[.pointer (some ⟨b, 0, none⟩), .int .i64 off] W (Good W (.int .i64 (aheadG x.L (qF off)))) := by
  have hb1 : Below W.heap.size W (W.alloc (.cells #[.int .i64 off] 3)) := (Below.refl _ W).alloc (Nat.le_refl _) _
  have hx := Box.new W 3 #[.int .i64 off]
  have cc := aheadF_c x A c base b W.heap.size off (W.alloc (.cells #[.int .i64 off] 3)) (h.later hb1) ((hx.cell 0).trans rfl) hx.lt hn hs
  have HB := Lib.hid hb1
  have hmf : ∀ (fn : Fn) (first cap : Array Value) (w : World), (Instr.makeFunc fn first cap).run Try.prog w = .ok (.func fn first cap) w := fun _ _ _ _ => rfl
  clear h hx hb1
  generalize aheadG x.L (qF off) = res at *
  go_enter Try.func12, Try.ntmps12
  go_wp2_with fail
  (with_reducible refine cc.mono ?_)
  rintro e w2 ⟨rfl, hb2⟩
  have H2 := Lib.hid (HB.out.trans (hb2.mono HB.out.size))
  clear hb2
  go_wp2_with fail
  go_ret
  exact ⟨rfl, H2.out⟩
theorem find_nil (off : Int) (W : World) : Calls Try.prog 12 #[.pointer none, .int .i64 off] W (Good W (.int .i64 0)) := by
  have hmf : ∀ (fn : Fn) (first cap : Array Value) (w : World), (Instr.makeFunc fn first cap).run Try.prog w = .ok (.func fn first cap) w := fun _ _ _ _ => rfl
  have ca : ∀ (P : Nat) (w : World), Calls Try.prog 22 #[.pointer none, .func (.func 23) #[] #[.pointer (some ⟨P, 0, none⟩)]] w (Good w (.int .i64 0)) := fun P w => by
    go_enter Try.func22, Try.ntmps22
    go_wp2
    go_ret
    exact ⟨rfl, ((Below.refl _ _).alloc (Nat.le_refl _) _).alloc (by simp) _⟩
  have HB := Lib.hid ((Below.refl W.heap.size W).alloc (Nat.le_refl _) (.cells #[.int .i64 off] 3))
  go_enter Try.func12, Try.ntmps12
  go_wp2_with fail
  (with_reducible refine (ca _ _).mono ?_)
  rintro e w2 ⟨rfl, hb2⟩
  have H2 := Lib.hid (HB.out.trans (hb2.mono HB.out.size))
  clear hb2
  go_wp2_with fail
  go_ret
  exact ⟨rfl, H2.out⟩
set_option maxHeartbeats 4000000 in
set_option maxRecDepth 100000 in
theorem seek_c (x : Ix) (A : Option Addr) (c base b : Nat) (off : Int) (W : World) (h : IxIs W base b x A c) (hn : x.L.length ≤ 1000000) (hs : Srt x.L) :
    Calls Try.prog 14 #[.pointer (some ⟨b, 0, none⟩), .int .i64 off] W (Good W (.int .i64 (aheadG x.L (qS off)))) := by
  have hb1 : Below W.heap.size W (W.alloc (.cells #[.int .i64 off] 3)) := (Below.refl _ W).alloc (Nat.le_refl _) _
  have hx := Box.new W 3 #[.int .i64 off]
  have cc := aheadS_c x A c base b W.heap.size off (W.alloc (.cells #[.int .i64 off] 3)) (h.later hb1) ((hx.cell 0).trans rfl) hx.lt hn hs
  have HB := Lib.hid hb1
  have hmf : ∀ (fn : Fn) (first cap : Array Value) (w : World), (Instr.makeFunc fn first cap).run Try.prog w = .ok (.func fn first cap) w := fun _ _ _ _ => rfl
  clear h hx hb1
  generalize aheadG x.L (qS off) = res at *
  go_enter Try.func14, Try.ntmps14
  go_wp2_with fail
  (with_reducible refine cc.mono ?_)
  rintro e w2 ⟨rfl, hb2⟩
  have H2 := Lib.hid (HB.out.trans (hb2.mono HB.out.size))
  clear hb2
  go_wp2_with fail
  go_ret
  exact ⟨rfl, H2.out⟩
theorem seek_nil (off : Int) (W : World) : Calls Try.prog 14 #[.pointer none, .int .i64 off] W (Good W (.int .i64 0)) := by
  have hmf : ∀ (fn : Fn) (first cap : Array Value) (w : World), (Instr.makeFunc fn first cap).run Try.prog w = .ok (.func fn first cap) w := fun _ _ _ _ => rfl
  have ca : ∀ (P : Nat) (w : World), Calls Try.prog 22 #[.pointer none, .func (.func 24) #[] #[.pointer (some ⟨P, 0, none⟩)]] w (Good w (.int .i64 0)) := fun P w => by
    go_enter Try.func22, Try.ntmps22
    go_wp2
    go_ret
    exact ⟨rfl, ((Below.refl _ _).alloc (Nat.le_refl _) _).alloc (by simp) _⟩
  have HB := Lib.hid ((Below.refl W.heap.size W).alloc (Nat.le_refl _) (.cells #[.int .i64 off] 3))
  go_enter Try.func14, Try.ntmps14
  go_wp2_with fail
  (with_reducible refine (ca _ _).mono ?_)
  rintro e w2 ⟨rfl, hb2⟩
  have H2 := Lib.hid (HB.out.trans (hb2.mono HB.out.size))
  clear hb2
  go_wp2_with fail
  go_ret
  exact ⟨rfl, H2.out⟩
end Go.Proofs.Ytljgiabaekddlaa
