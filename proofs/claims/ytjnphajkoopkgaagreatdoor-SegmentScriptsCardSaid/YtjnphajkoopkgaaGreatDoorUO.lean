/- Merged texts. What each proves is told at its head. -/
import Derived.Test.YtjnphajkoopkgaaGreatDoorUN
import Derived.Deep.AppendLies
import Derived.Deep.RegionLaw
/- index: Find and Seek, of an index and of none. No condition. -/
namespace Go.Proofs.YtjnphajkoopkgaaGreatDoor.Ix
open Go.RowKit
set_option linter.unusedVariables false
/-- Entries rise. -/
def Srt (L : List En) : Prop := L.Pairwise fun e f => e.1 < f.1 ∧ e.2.1 < f.2.1 ∧ e.2.2 ≤ f.2.2
theorem Srt.le {L : List En} (h : Srt L) {i j : Nat} {e f : En} (hij : i ≤ j) (he : L[i]? = some e) (hf : L[j]? = some f) : e.1 ≤ f.1 ∧ e.2.1 ≤ f.2.1 ∧ e.2.2 ≤ f.2.2 := by
  rcases Nat.eq_or_lt_of_le hij with rfl | hlt
  · rw [he] at hf
    injection hf with hf
    subst hf
    exact ⟨Int.le_refl _, Int.le_refl _, Int.le_refl _⟩
  · obtain ⟨hi, rfl⟩ := List.getElem?_eq_some_iff.1 he
    obtain ⟨hj, rfl⟩ := List.getElem?_eq_some_iff.1 hf
    have := List.pairwise_iff_getElem.1 h i j hi hj hlt
    omega
def qF (off : Int) (e : En) : Bool := decide (off < e.1)
def qS (off : Int) (e : En) : Bool := decide (off ≤ e.2.2)
def atE (L : List En) (i : Nat) : En := (L[i]?).getD (0, 0, 0)
theorem atE_some {L : List En} {i : Nat} (h : i < L.length) : L[i]? = some (atE L i) := by
  unfold atE
  rw [List.getElem?_eq_getElem h]
  rfl
theorem qF_mono {L : List En} (h : Srt L) (off : Int) : ∀ i j, i ≤ j → j < L.length → qF off (atE L i) = true → qF off (atE L j) = true := by
  intro i j hij hj hq
  have := h.le hij (atE_some (by omega)) (atE_some hj)
  unfold qF at *
  simp only [decide_eq_true_eq] at *
  omega
theorem qS_mono {L : List En} (h : Srt L) (off : Int) : ∀ i j, i ≤ j → j < L.length → qS off (atE L i) = true → qS off (atE L j) = true := by
  intro i j hij hj hq
  have := h.le hij (atE_some (by omega)) (atE_some hj)
  unfold qS at *
  simp only [decide_eq_true_eq] at *
  omega
theorem aheadG_of {L : List En} {Q : En → Bool} {r : Nat} (hr : r ≤ L.length) (h0 : ∀ k, k < r → Q (atE L k) = false) (h1 : ∀ k, r ≤ k → k < L.length → Q (atE L k) = true) : aheadG L Q = if r = 0 then 0 else (atE L (r - 1)).2.1 := by
  refine aheadG_at hr (fun k e hk he => ?_) (fun k e hk he => ?_)
  · have := h0 k hk
    unfold atE at this
    rwa [he] at this
  · have hkl := (List.getElem?_eq_some_iff.1 he).1
    have := h1 k hk hkl
    unfold atE at this
    rwa [he] at this
set_option maxHeartbeats 4000000 in
set_option maxRecDepth 100000 in
theorem aheadF_c (x : Ix) (A : Option Addr) (c base b P : Nat) (off : Int) (W : World) (h : IxIs W base b x A c) (hP : W.cell? ⟨P, 0, none⟩ = some (.int .i64 off)) (hl : P < W.heap.size) (hn : x.L.length ≤ 1000000) (hs : Srt x.L) :
    Calls Tryz.prog 76 #[.pointer (some ⟨b, 0, none⟩), .func (.func 87) #[] #[.pointer (some ⟨P, 0, none⟩)]] W (Good W (.int .i64 (aheadG x.L (qF off)))) := by
  obtain ⟨W1, hW1⟩ : ∃ w, (W.alloc (.cells #[.pointer (some ⟨b, 0, none⟩)] 70)).alloc (.cells #[.func (.func 87) #[] #[.pointer (some ⟨P, 0, none⟩)]] 129) = w := ⟨_, rfl⟩
  have HA : Hid (Below W.heap.size W W1 ∧ Box W1 W.heap.size 70 #[.pointer (some ⟨b, 0, none⟩)] ∧ Box W1 (W.heap.size + 1) 129 #[.func (.func 87) #[] #[.pointer (some ⟨P, 0, none⟩)]] ∧ W1.heap.size = W.heap.size + 1 + 1) := Lib.hid (by
    rw [← hW1]
    refine ⟨((Below.refl _ W).alloc (Nat.le_refl _) _).alloc (by simp) _, (Box.new W _ _).alloc _, ?_, by simp⟩
    have := Box.new (W.alloc (.cells #[.pointer (some ⟨b, 0, none⟩)] 70)) 129 #[.func (.func 87) #[] #[.pointer (some ⟨P, 0, none⟩)]]
    rwa [World.size_alloc] at this)
  have y0 := (HA.out.2.1.cell 0).trans (show _ = some (Value.pointer (some ⟨b, 0, none⟩)) from rfl)
  have hX1 := h.later HA.out.1
  obtain ⟨c0, c1, c2, c3, f0, f1, f2, f3⟩ := hX1.cells
  have hP1 : W1.cell? ⟨P, 0, none⟩ = some (.int .i64 off) := (HA.out.1.cell (p := ⟨P, 0, none⟩) hl).trans hP
  have hsr := search_c x.L.length (W.heap.size + 1) W.heap.size (fun i => qF off (atE x.L i)) W1 hn (fun i hi w hb => by
    have := findA_c x A c base b P (W.heap.size + 1) W.heap.size i off (atE x.L i) w (hX1.later hb) ((hb.cell (p := ⟨P, 0, none⟩) (Nat.lt_of_lt_of_le hl HA.out.1.size)).trans hP1) (Nat.lt_of_lt_of_le (Nat.lt_of_lt_of_le hl HA.out.1.size) hb.size)
      (((HA.out.2.2.1.later hb).cell 0).trans rfl) (HA.out.2.2.1.later hb).lt (((HA.out.2.1.later hb).cell 0).trans rfl) (HA.out.2.1.later hb).lt (atE_some hi) hn
    exact this) (qF_mono hs off)
  have HX := Lib.hid hX1
  obtain ⟨res, hres⟩ : ∃ res, aheadG x.L (qF off) = res := ⟨_, rfl⟩
  have HRES := Lib.hid hres
  rw [hres]
  clear hres
  unfold GotSearch at hsr
  have hxl := hn
  clear h hX1 hP hP1 c0 c2 c3 f0 f1 f2 f3
  go_enter Tryz.func76, Tryz.ntmps76
  go_wp2_with fail
  (with_reducible refine hsr.mono ?_)
  rintro e w2 ⟨r, rfl, hr, hlo, hhi, hb2⟩
  have hag := aheadG_of (Q := qF off) hr hlo hhi
  have H2 := Lib.hid (And.intro (HA.out.1.trans (hb2.mono HA.out.1.size)) (And.intro (HA.out.2.1.later hb2) (HX.out.later hb2)))
  clear hlo hhi hb2 hsr y0 c1 hW1
  by_cases h0 : r = 0
  · subst h0
    have hz : res = 0 := by rw [← HRES.out, hag, if_pos rfl]
    subst hz
    clear hag
    go_wp2_with fail
    go_ret
    exact ⟨rfl, H2.out.1⟩
  · have h0' : ((r : Int) == 0) = false := by rw [beq_eq_false_iff_ne]; omega
    rw [if_neg h0, HRES.out] at hag
    obtain ⟨g, rfl, q0, q1, hg, hcap⟩ := H2.out.2.2.entry (atE_some (L := x.L) (i := r - 1) (by omega))
    have hoke := H2.out.2.2.oks _ (List.mem_of_getElem? (atE_some (L := x.L) (i := r - 1) (by omega)))
    obtain ⟨c0, c1, _⟩ := H2.out.2.2.cells
    have y0 := (H2.out.2.1.cell 0).trans (show _ = some (Value.pointer (some ⟨b, 0, none⟩)) from rfl)
    have ct := fun w => told_c (atE x.L (r - 1)).1 (atE x.L (r - 1)).2.1 (atE x.L (r - 1)).2.2 w hoke.1 hoke.2
    have hfd := field_1 (atE x.L (r - 1)).1 (atE x.L (r - 1)).2.1 (atE x.L (r - 1)).2.2
    have n1 : (r : Int) - 1 = ((r - 1 : Nat) : Int) := by omega
    generalize atE x.L (r - 1) = e at *
    obtain ⟨o, q, t⟩ := e
    simp only at q0 q1 ct hfd hag
    have HG := Lib.hid hag
    clear hag
    have j0 : (0 : Int) ≤ ((r - 1 : Nat) : Int) := by omega
    have j1 : ((r - 1 : Nat) : Int) < (x.L.length : Int) := by omega
    have hr6 : r ≤ 1000000 := by omega
    generalize r - 1 = j at *
    clear c0 hoke
    generalize fl o = zo at *
    generalize fl q = zq at *
    go_wp2_with fail
    (with_reducible refine (ct _).mono ?_)
    rintro e w3 ⟨rfl, hb3⟩
    have H3 := Lib.hid (H2.out.1.trans (hb3.mono H2.out.1.size))
    clear hb3 y0 c1 q0 q1
    go_wp2_with fail
    go_ret
    exact ⟨by rw [HG.out]; rfl, H3.out⟩
set_option maxHeartbeats 4000000 in
set_option maxRecDepth 100000 in
theorem aheadS_c (x : Ix) (A : Option Addr) (c base b P : Nat) (off : Int) (W : World) (h : IxIs W base b x A c) (hP : W.cell? ⟨P, 0, none⟩ = some (.int .i64 off)) (hl : P < W.heap.size) (hn : x.L.length ≤ 1000000) (hs : Srt x.L) :
    Calls Tryz.prog 76 #[.pointer (some ⟨b, 0, none⟩), .func (.func 77) #[] #[.pointer (some ⟨P, 0, none⟩)]] W (Good W (.int .i64 (aheadG x.L (qS off)))) := by
  obtain ⟨W1, hW1⟩ : ∃ w, (W.alloc (.cells #[.pointer (some ⟨b, 0, none⟩)] 70)).alloc (.cells #[.func (.func 77) #[] #[.pointer (some ⟨P, 0, none⟩)]] 129) = w := ⟨_, rfl⟩
  have HA : Hid (Below W.heap.size W W1 ∧ Box W1 W.heap.size 70 #[.pointer (some ⟨b, 0, none⟩)] ∧ Box W1 (W.heap.size + 1) 129 #[.func (.func 77) #[] #[.pointer (some ⟨P, 0, none⟩)]] ∧ W1.heap.size = W.heap.size + 1 + 1) := Lib.hid (by
    rw [← hW1]
    refine ⟨((Below.refl _ W).alloc (Nat.le_refl _) _).alloc (by simp) _, (Box.new W _ _).alloc _, ?_, by simp⟩
    have := Box.new (W.alloc (.cells #[.pointer (some ⟨b, 0, none⟩)] 70)) 129 #[.func (.func 77) #[] #[.pointer (some ⟨P, 0, none⟩)]]
    rwa [World.size_alloc] at this)
  have y0 := (HA.out.2.1.cell 0).trans (show _ = some (Value.pointer (some ⟨b, 0, none⟩)) from rfl)
  have hX1 := h.later HA.out.1
  obtain ⟨c0, c1, c2, c3, f0, f1, f2, f3⟩ := hX1.cells
  have hP1 : W1.cell? ⟨P, 0, none⟩ = some (.int .i64 off) := (HA.out.1.cell (p := ⟨P, 0, none⟩) hl).trans hP
  have hsr := search_c x.L.length (W.heap.size + 1) W.heap.size (fun i => qS off (atE x.L i)) W1 hn (fun i hi w hb => by
    have := seekA_c x A c base b P (W.heap.size + 1) W.heap.size i off (atE x.L i) w (hX1.later hb) ((hb.cell (p := ⟨P, 0, none⟩) (Nat.lt_of_lt_of_le hl HA.out.1.size)).trans hP1) (Nat.lt_of_lt_of_le (Nat.lt_of_lt_of_le hl HA.out.1.size) hb.size)
      (((HA.out.2.2.1.later hb).cell 0).trans rfl) (HA.out.2.2.1.later hb).lt (((HA.out.2.1.later hb).cell 0).trans rfl) (HA.out.2.1.later hb).lt (atE_some hi) hn
    exact this) (qS_mono hs off)
  have HX := Lib.hid hX1
  obtain ⟨res, hres⟩ : ∃ res, aheadG x.L (qS off) = res := ⟨_, rfl⟩
  have HRES := Lib.hid hres
  rw [hres]
  clear hres
  unfold GotSearch at hsr
  have hxl := hn
  clear h hX1 hP hP1 c0 c2 c3 f0 f1 f2 f3
  go_enter Tryz.func76, Tryz.ntmps76
  go_wp2_with fail
  (with_reducible refine hsr.mono ?_)
  rintro e w2 ⟨r, rfl, hr, hlo, hhi, hb2⟩
  have hag := aheadG_of (Q := qS off) hr hlo hhi
  have H2 := Lib.hid (And.intro (HA.out.1.trans (hb2.mono HA.out.1.size)) (And.intro (HA.out.2.1.later hb2) (HX.out.later hb2)))
  clear hlo hhi hb2 hsr y0 c1 hW1
  by_cases h0 : r = 0
  · subst h0
    have hz : res = 0 := by rw [← HRES.out, hag, if_pos rfl]
    subst hz
    clear hag
    go_wp2_with fail
    go_ret
    exact ⟨rfl, H2.out.1⟩
  · have h0' : ((r : Int) == 0) = false := by rw [beq_eq_false_iff_ne]; omega
    rw [if_neg h0, HRES.out] at hag
    obtain ⟨g, rfl, q0, q1, hg, hcap⟩ := H2.out.2.2.entry (atE_some (L := x.L) (i := r - 1) (by omega))
    have hoke := H2.out.2.2.oks _ (List.mem_of_getElem? (atE_some (L := x.L) (i := r - 1) (by omega)))
    obtain ⟨c0, c1, _⟩ := H2.out.2.2.cells
    have y0 := (H2.out.2.1.cell 0).trans (show _ = some (Value.pointer (some ⟨b, 0, none⟩)) from rfl)
    have ct := fun w => told_c (atE x.L (r - 1)).1 (atE x.L (r - 1)).2.1 (atE x.L (r - 1)).2.2 w hoke.1 hoke.2
    have hfd := field_1 (atE x.L (r - 1)).1 (atE x.L (r - 1)).2.1 (atE x.L (r - 1)).2.2
    have n1 : (r : Int) - 1 = ((r - 1 : Nat) : Int) := by omega
    generalize atE x.L (r - 1) = e at *
    obtain ⟨o, q, t⟩ := e
    simp only at q0 q1 ct hfd hag
    have HG := Lib.hid hag
    clear hag
    have j0 : (0 : Int) ≤ ((r - 1 : Nat) : Int) := by omega
    have j1 : ((r - 1 : Nat) : Int) < (x.L.length : Int) := by omega
    have hr6 : r ≤ 1000000 := by omega
    generalize r - 1 = j at *
    clear c0 hoke
    generalize fl o = zo at *
    generalize fl q = zq at *
    go_wp2_with fail
    (with_reducible refine (ct _).mono ?_)
    rintro e w3 ⟨rfl, hb3⟩
    have H3 := Lib.hid (H2.out.1.trans (hb3.mono H2.out.1.size))
    clear hb3 y0 c1 q0 q1
    go_wp2_with fail
    go_ret
    exact ⟨by rw [HG.out]; rfl, H3.out⟩
set_option maxHeartbeats 4000000 in
set_option maxRecDepth 100000 in
theorem find_c (x : Ix) (A : Option Addr) (c base b : Nat) (off : Int) (W : World) (h : IxIs W base b x A c) (hn : x.L.length ≤ 1000000) (hs : Srt x.L) :
    Calls Tryz.prog 50 #[.pointer (some ⟨b, 0, none⟩), .int .i64 off] W (Good W (.int .i64 (aheadG x.L (qF off)))) := by
  have hb1 : Below W.heap.size W (W.alloc (.cells #[.int .i64 off] 3)) := (Below.refl _ W).alloc (Nat.le_refl _) _
  have hx := Box.new W 3 #[.int .i64 off]
  have cc := aheadF_c x A c base b W.heap.size off (W.alloc (.cells #[.int .i64 off] 3)) (h.later hb1) ((hx.cell 0).trans rfl) hx.lt hn hs
  have HB := Lib.hid hb1
  have hmf : ∀ (fn : Fn) (first cap : Array Value) (w : World), (Instr.makeFunc fn first cap).run Tryz.prog w = .ok (.func fn first cap) w := fun _ _ _ _ => rfl
  clear h hx hb1
  generalize aheadG x.L (qF off) = res at *
  go_enter Tryz.func50, Tryz.ntmps50
  go_wp2_with fail
  (with_reducible refine cc.mono ?_)
  rintro e w2 ⟨rfl, hb2⟩
  have H2 := Lib.hid (HB.out.trans (hb2.mono HB.out.size))
  clear hb2
  go_wp2_with fail
  go_ret
  exact ⟨rfl, H2.out⟩
theorem find_nil (off : Int) (W : World) : Calls Tryz.prog 50 #[.pointer none, .int .i64 off] W (Good W (.int .i64 0)) := by
  have hmf : ∀ (fn : Fn) (first cap : Array Value) (w : World), (Instr.makeFunc fn first cap).run Tryz.prog w = .ok (.func fn first cap) w := fun _ _ _ _ => rfl
  have ca : ∀ (P : Nat) (w : World), Calls Tryz.prog 76 #[.pointer none, .func (.func 87) #[] #[.pointer (some ⟨P, 0, none⟩)]] w (Good w (.int .i64 0)) := fun P w => by
    go_enter Tryz.func76, Tryz.ntmps76
    go_wp2
    go_ret
    exact ⟨rfl, ((Below.refl _ _).alloc (Nat.le_refl _) _).alloc (by simp) _⟩
  have HB := Lib.hid ((Below.refl W.heap.size W).alloc (Nat.le_refl _) (.cells #[.int .i64 off] 3))
  go_enter Tryz.func50, Tryz.ntmps50
  go_wp2_with fail
  (with_reducible refine (ca _ _).mono ?_)
  rintro e w2 ⟨rfl, hb2⟩
  have H2 := Lib.hid (HB.out.trans (hb2.mono HB.out.size))
  clear hb2
  go_wp2_with fail
  go_ret
  exact ⟨rfl, H2.out⟩
set_option maxHeartbeats 4000000 in
set_option maxRecDepth 100000 in
theorem seek_c (x : Ix) (A : Option Addr) (c base b : Nat) (off : Int) (W : World) (h : IxIs W base b x A c) (hn : x.L.length ≤ 1000000) (hs : Srt x.L) :
    Calls Tryz.prog 44 #[.pointer (some ⟨b, 0, none⟩), .int .i64 off] W (Good W (.int .i64 (aheadG x.L (qS off)))) := by
  have hb1 : Below W.heap.size W (W.alloc (.cells #[.int .i64 off] 3)) := (Below.refl _ W).alloc (Nat.le_refl _) _
  have hx := Box.new W 3 #[.int .i64 off]
  have cc := aheadS_c x A c base b W.heap.size off (W.alloc (.cells #[.int .i64 off] 3)) (h.later hb1) ((hx.cell 0).trans rfl) hx.lt hn hs
  have HB := Lib.hid hb1
  have hmf : ∀ (fn : Fn) (first cap : Array Value) (w : World), (Instr.makeFunc fn first cap).run Tryz.prog w = .ok (.func fn first cap) w := fun _ _ _ _ => rfl
  clear h hx hb1
  generalize aheadG x.L (qS off) = res at *
  go_enter Tryz.func44, Tryz.ntmps44
  go_wp2_with fail
  (with_reducible refine cc.mono ?_)
  rintro e w2 ⟨rfl, hb2⟩
  have H2 := Lib.hid (HB.out.trans (hb2.mono HB.out.size))
  clear hb2
  go_wp2_with fail
  go_ret
  exact ⟨rfl, H2.out⟩
end Go.Proofs.YtjnphajkoopkgaaGreatDoor.Ix
/- index: Add. No condition but that the entries are not too many. -/
namespace Go.Proofs.YtjnphajkoopkgaaGreatDoor.Ix
open Go.RowKit
set_option linter.unusedVariables false
theorem run_store_complex {P : Program} {w : World} {a : Addr} {m : Mode} (k : FloatKind) (x y : Nat) : (store a (.complex k x y) m).run P w = stored P w a (.complex k x y) m := run_store P w a _ m rfl
attribute [local go_sem] run_store_complex
def Ix.ok (x : Ix) (o p t : Int) : Bool := ixo o && (ixo p && (ixo t && risesB x o p))
def Ix.add (x : Ix) (o p t : Int) : Ix := if x.ok o p t = true then ⟨x.every, if dueB x p = true then x.L ++ [(o, p, max x.lt t)] else x.L, o, p, max x.lt t⟩ else x
def Ix.addE (x : Ix) (o p t : Int) : Int := if x.ok o p t = true then 0 else 1
/-- The block of a slice. -/
def blk (A : Option Addr) (k : Nat) : Prop := ∃ a, A = some a ∧ a.block = k
def GotAdd (W : World) (base b : Nat) (x : Ix) (A : Option Addr) (o p t : Int) (en : Ending) (w' : World) : Prop :=
  ∃ (A' : Option Addr) (c' : Nat), en = .returned (.int .i64 (x.addE o p t)) ∧ IxIs w' base b (x.add o p t) A' c' ∧ Off (fun k => k = b ∨ blk A k) W w' ∧ ∀ k, blk A' k → blk A k ∨ W.heap.size ≤ k
theorem GotAdd.bad {W : World} {base b c : Nat} {x : Ix} {A : Option Addr} {o p t : Int} (h : IxIs W base b x A c) (hk : x.ok o p t = false) : GotAdd W base b x A o p t (.returned (.int .i64 1)) W := by
  unfold GotAdd Ix.add Ix.addE
  rw [hk]
  exact ⟨A, c, rfl, h, Off.refl _ _, fun k hb => .inl hb⟩
theorem news_at9 {w : World} {g : Nat} {t : TypeId} {cs : Array Value} (h : Box w g t cs) : ∀ j u, cs.toList[j]? = some u → w.cell? ((⟨g, 0, none⟩ : Addr).add j) = some u := by
  intro j u hu
  have e1 : (⟨g, 0, none⟩ : Addr).add j = ⟨g, j, none⟩ := by unfold Addr.add; split <;> simp_all
  rw [e1, h.cell j]
  simpa using hu
theorem entInfo : (Tryz.prog.info? 153).map (fun i => (i.zero, i.size, i.bytes)) = some (some (.agg #[.complex .f64 0 0, .int .i64 0]), 2, 24) := by kernel_rfl
theorem ent_one (z1 z2 : Nat) (t : Int) : ∀ u ∈ [Value.complex .f64 z1 z2, Value.int .i64 t], u.oneCell' = true := by
  intro u hu
  simp at hu
  rcases hu with rfl | rfl <;> rfl
theorem own_blk {A : Option Addr} {m c k : Nat} (h : (Value.slice A m c).ownBlock = some k) : blk A k := by
  cases A with
  | none => cases h
  | some a => exact ⟨a, rfl, by simpa [Value.ownBlock] using h⟩
/-- Behind the two stores. -/
theorem IxIs.stored {W : World} {base b c : Nat} {x : Ix} {A : Option Addr} (h : IxIs W base b x A c) {o p m : Int} (ho : ixo o = true) (hp : ixo p = true) :
    IxIs ((W.setCell ⟨b, 2, none⟩ (.complex .f64 (fl o) (fl p))).setCell ⟨b, 3, none⟩ (.int .i64 m)) base b ⟨x.every, x.L, o, p, m⟩ A c := by
  have hne := own_ne h.row h.box (by decide)
  have h1 := own_off h.row (Off.one W ⟨b, 2, none⟩ (.complex .f64 (fl o) (fl p))) (fun k e => hne k e)
  have hb1 : Box (W.setCell ⟨b, 2, none⟩ (.complex .f64 (fl o) (fl p))) b 114 #[.int .i64 x.every, .slice A x.L.length c, .complex .f64 (fl o) (fl p), .int .i64 x.lt] := h.box.set 2 _
  have h2 := own_off h1 (Off.one _ ⟨b, 3, none⟩ (.int .i64 m)) (fun k e => hne k e)
  exact ⟨hb1.set 3 _, h2, h.lo, h.oks, ho, hp⟩
/-- Behind an append. -/
theorem IxIs.appended {w w' : World} {base b c g cap : Nat} {x : Ix} {A : Option Addr} (h : IxIs w base b x A c) {e : En} (he : okE e) {o : Obj} (hown : w'.ownsRow base 153 2 (.slice (some ⟨g, 0, none⟩) (x.L.length + 1) cap) (x.L.length + 1) (entC x.L ++ [.complex .f64 (fl e.1) (fl e.2.1), .int .i64 e.2.2]))
    (hg : (w.drew.alloc o).grownBy w' (Value.slice A x.L.length c).ownBlock) :
    w'.cell? ⟨b, 1, none⟩ = some (.slice A x.L.length c) ∧ w'.frozen? ⟨b, 1, none⟩ = false ∧ IxIs (w'.setCell ⟨b, 1, none⟩ (.slice (some ⟨g, 0, none⟩) (x.L.length + 1) cap)) base b ⟨x.every, x.L ++ [e], x.lo, x.lp, x.lt⟩ (some ⟨g, 0, none⟩) cap ∧
      Off (fun k => k = b ∨ blk A k) w (w'.setCell ⟨b, 1, none⟩ (.slice (some ⟨g, 0, none⟩) (x.L.length + 1) cap)) := by
  have hne := own_ne h.row h.box (by decide)
  have hbA := (h.box.drew).alloc o
  have hb' : Box w' b 114 #[.int .i64 x.every, .slice A x.L.length c, .complex .f64 (fl x.lo) (fl x.lp), .int .i64 x.lt] := (hg.block b hbA.lt (fun e => hne _ e.symm rfl)).trans hbA
  have ho1 : Off (fun k => k = b ∨ blk A k) w (w.drew.alloc o) := ((Off.refl _ w).drew).alloc o
  have ho2 := ho1.grown hg (fun k e _ => .inr (own_blk e))
  refine ⟨(hb'.cell 1).trans rfl, hb'.frozen 1, ⟨?_, ?_, h.lo, ?_, h.okl⟩, ho2.set (p := ⟨b, 1, none⟩) (.inl (.inl rfl)) _⟩
  · show Box _ b _ #[.int .i64 x.every, .slice (some ⟨g, 0, none⟩) (x.L ++ [e]).length cap, .complex .f64 (fl x.lo) (fl x.lp), .int .i64 x.lt]
    rw [List.length_append]
    exact hb'.set 1 _
  · show World.ownsRow _ base _ 2 (.slice (some ⟨g, 0, none⟩) (x.L ++ [e]).length cap) (x.L ++ [e]).length (entC (x.L ++ [e]))
    rw [entC_snoc, List.length_append]
    exact own_off hown (Off.one w' ⟨b, 1, none⟩ _) (fun k e => own_ne hown hb' (by decide) k e)
  · intro y hy
    rw [List.mem_append] at hy
    rcases hy with hy | hy
    · exact h.oks y hy
    · simp at hy
      subst hy
      exact he
theorem GotAdd.good {W w' : World} {base b c' : Nat} {x : Ix} {A A' : Option Addr} {o p t m : Int} (hk : x.ok o p t = true) (hm : max x.lt t = m) {L' : List En} (hL : (if dueB x p = true then x.L ++ [(o, p, m)] else x.L) = L') (h : IxIs w' base b ⟨x.every, L', o, p, m⟩ A' c') (ho : Off (fun k => k = b ∨ blk A k) W w') (hn : ∀ k, blk A' k → blk A k ∨ W.heap.size ≤ k) :
    GotAdd W base b x A o p t (.returned (.int .i64 0)) w' := by
  unfold GotAdd Ix.add Ix.addE
  rw [if_pos hk, if_pos hk, hm, hL]
  exact ⟨A', c', rfl, h, ho, hn⟩
set_option maxHeartbeats 8000000 in
set_option maxRecDepth 100000 in
theorem add_c (x : Ix) (A : Option Addr) (c base b : Nat) (o p t : Int) (W : World) (h : IxIs W base b x A c) (hbase : base ≤ W.heap.size) (hn : x.L.length ≤ 1000000) :
    Calls Tryz.prog 85 #[.pointer (some ⟨b, 0, none⟩), .int .i64 o, .int .i64 p, .int .i64 t] W (GotAdd W base b x A o p t) := by
  have co := fun w => within_c o w
  have cp := fun w => within_c p w
  have ct := fun w => within_c t w
  have cr := fun w hw => rises_c x A c base b o p w hw
  have HX := Lib.hid h
  cases ho : ixo o with
  | false =>
    have hbad : x.ok o p t = false := by unfold Ix.ok; rw [ho]; rfl
    rw [ho] at co
    have HB := Lib.hid hbad
    clear ho hbad h
    go_enter Tryz.func85, Tryz.ntmps85
    go_wp2_with ((with_reducible refine (co _).mono ?_); rintro en w1 ⟨rfl, hw⟩; (have hw' := hw.symm; subst hw'))
    go_ret
    exact GotAdd.bad HX.out HB.out
  | true =>
  rw [ho] at co
  cases hp : ixo p with
  | false =>
    have hbad : x.ok o p t = false := by unfold Ix.ok; rw [ho, hp]; rfl
    rw [hp] at cp
    have HB := Lib.hid hbad
    clear ho hp hbad h
    go_enter Tryz.func85, Tryz.ntmps85
    go_wp2_with (first | ((with_reducible refine (co _).mono ?_); rintro en w1 ⟨rfl, hw⟩; (have hw' := hw.symm; subst hw')) | ((with_reducible refine (cp _).mono ?_); rintro en w1 ⟨rfl, hw⟩; (have hw' := hw.symm; subst hw')))
    go_ret
    exact GotAdd.bad HX.out HB.out
  | true =>
  rw [hp] at cp
  cases ht : ixo t with
  | false =>
    have hbad : x.ok o p t = false := by unfold Ix.ok; rw [ho, hp, ht]; rfl
    rw [ht] at ct
    have HB := Lib.hid hbad
    clear ho hp ht hbad h
    go_enter Tryz.func85, Tryz.ntmps85
    go_wp2_with (first | ((with_reducible refine (co _).mono ?_); rintro en w1 ⟨rfl, hw⟩; (have hw' := hw.symm; subst hw')) | ((with_reducible refine (cp _).mono ?_); rintro en w1 ⟨rfl, hw⟩; (have hw' := hw.symm; subst hw')) | ((with_reducible refine (ct _).mono ?_); rintro en w1 ⟨rfl, hw⟩; (have hw' := hw.symm; subst hw')))
    go_ret
    exact GotAdd.bad HX.out HB.out
  | true =>
  rw [ht] at ct
  cases hr : risesB x o p with
  | false =>
    have hbad : x.ok o p t = false := by unfold Ix.ok; rw [ho, hp, ht, hr]; rfl
    rw [hr] at cr
    have HB := Lib.hid hbad
    clear ho hp ht hr hbad h
    go_enter Tryz.func85, Tryz.ntmps85
    go_wp2_with (first | ((with_reducible refine (co _).mono ?_); rintro en w1 ⟨rfl, hw⟩; (have hw' := hw.symm; subst hw')) | ((with_reducible refine (cp _).mono ?_); rintro en w1 ⟨rfl, hw⟩; (have hw' := hw.symm; subst hw')) | ((with_reducible refine (ct _).mono ?_); rintro en w1 ⟨rfl, hw⟩; (have hw' := hw.symm; subst hw')) | ((with_reducible refine (cr _ HX.out).mono ?_); rintro en w1 ⟨rfl, hw⟩; (have hw' := hw.symm; subst hw')))
    go_ret
    exact GotAdd.bad HX.out HB.out
  | true =>
  rw [hr] at cr
  have hgood : x.ok o p t = true := by unfold Ix.ok; rw [ho, hp, ht, hr]; rfl
  have HG := Lib.hid hgood
  have HOP := Lib.hid (And.intro ho hp)
  have cj := fun w => join_c o p w
  obtain ⟨c0, c1, c2, c3, f0, f1, f2, f3⟩ := h.cells
  clear ho hp ht hr hgood h
  have hsplit : x.lt < t ∨ ¬ x.lt < t := Classical.em _
  rcases hsplit with q | q
  · have HMX : Hid (max x.lt t = t) := Lib.hid (by omega)
    have cd := fun w hw => due_c ⟨x.every, x.L, o, p, t⟩ A c base b p w hw HOP.out.2 (by show x.L.length ≤ 1000000; omega)
    change ∀ w, _ → Calls _ _ _ w (Good w (.bool (dueB x p))) at cd
    have HX2 : Hid (IxIs ((W.setCell ⟨b, 2, none⟩ (.complex .f64 (fl o) (fl p))).setCell ⟨b, 3, none⟩ (.int .i64 t)) base b ⟨x.every, x.L, o, p, t⟩ A c) := Lib.hid (HX.out.stored HOP.out.1 HOP.out.2)
    have HO2 : Hid (Off (fun k => k = b ∨ blk A k) W ((W.setCell ⟨b, 2, none⟩ (.complex .f64 (fl o) (fl p))).setCell ⟨b, 3, none⟩ (.int .i64 t))) := Lib.hid (((Off.refl _ W).set (p := ⟨b, 2, none⟩) (.inl (.inl rfl)) _).set (p := ⟨b, 3, none⟩) (.inl (.inl rfl)) _)
    go_enter Tryz.func85, Tryz.ntmps85
    go_wp2_with (first | ((with_reducible refine (co _).mono ?_); rintro en w1 ⟨rfl, hw⟩; (have hw' := hw.symm; subst hw')) | ((with_reducible refine (cp _).mono ?_); rintro en w1 ⟨rfl, hw⟩; (have hw' := hw.symm; subst hw')) | ((with_reducible refine (ct _).mono ?_); rintro en w1 ⟨rfl, hw⟩; (have hw' := hw.symm; subst hw')) | ((with_reducible refine (cr _ HX.out).mono ?_); rintro en w1 ⟨rfl, hw⟩; (have hw' := hw.symm; subst hw')) | ((with_reducible refine (cj _).mono ?_); rintro en w1 ⟨rfl, hw⟩; (have hw' := hw.symm; subst hw')))
    (with_reducible refine (cd _ HX2.out).mono ?_)
    rintro en w3 ⟨rfl, hb3⟩
    have HX3 := Lib.hid (HX2.out.later hb3)
    have HO3 := Lib.hid (HO2.out.later hb3)
    clear hb3 HX2 HO2 c0 c1 c2 c3 f0 f1 f2 f3
    cases hd : dueB x p with
    | false =>
      have HD := Lib.hid hd
      clear hd
      go_wp2_with fail
      go_ret
      exact GotAdd.good HG.out HMX.out (by rw [HD.out]; rfl) HX3.out HO3.out (fun k hk => .inl hk)
    | true =>
      have HD := Lib.hid hd
      clear hd
      have hX4 := HX3.out.later (Below.refl _ w3).drew
      obtain ⟨c0, c1, c2, c3, f0, f1, f2, f3⟩ := hX4.cells
      simp only at c0 c1 c2 c3
      obtain ⟨d0, d1, d2, d3, e0, e1, e2, e3⟩ := (HX3.out.later ((Below.refl w3.heap.size w3).alloc (Nat.le_refl _) (.cells #[.complex .f64 (fl o) (fl p), .int .i64 t] 153))).cells
      simp only at d0 d1 d2 d3
      have hF := fun g cap w' hown hg => HX3.out.appended (w' := w') (g := g) (cap := cap) (e := (o, p, t)) ⟨HOP.out.1, HOP.out.2⟩ (o := .cells #[.complex .f64 (fl o) (fl p), .int .i64 t] 153) hown hg
      have hrow := own_below hX4.row ((Below.refl w3.drew.heap.size w3.drew).alloc (Nat.le_refl _) (.cells #[.complex .f64 (fl o) (fl p), .int .i64 t] 153))
      have hnw := news_at9 (Box.new w3.drew 153 #[.complex .f64 (fl o) (fl p), .int .i64 t])
      have hbw : base ≤ w3.heap.size := Nat.le_trans hbase HO3.out.size
      have h1c := ent_one (fl o) (fl p) t
      simp only at hF hrow
      have HO := Lib.hid (fun w' (h : Off (fun k => k = b ∨ blk A k) w3 w') => HO3.out.trans h (fun i _ h => h))
      have HSZ := Lib.hid HO3.out.size
      obtain ⟨i0, hq, hqz, hqs, hqb⟩ := info_parts entInfo
      clear hX4 HX3 HO3 f0 f2 f3 e0 e2 e3
      generalize fl o = zo at *
      generalize fl p = zp at *
      have HF := Lib.hid hF
      clear hF
      go_wp2_with fail
      go_region_law (refine step_append_lies (w3.alloc (.cells #[.complex .f64 zo zp, .int .i64 t] 153)).drew rfl (.tmp 55) (.tmp 65) 111 rfl base 153 i0 (.agg #[.complex .f64 0 0, .int .i64 0]) 2 24 Tryz.underlying111 hq hqz hqs hqb rfl (by decide) (.slice A x.L.length c) x.L.length (entC x.L) (by simp [Act.eval]) hrow ⟨w3.heap.size, 0, none⟩ 1 1 [.complex .f64 zo zp, .int .i64 t] (by simp [Act.eval]) rfl hnw h1c (by decide) (by unfold maxLen; omega) (by omega) (by simp; omega) (w3.heap.size + 1) (by simp) ?_; intro g2 cap2 w4 hown4 hgrow4 hg4 hlt4; obtain ⟨k1, k2, k3⟩ := HF.out _ _ w4 hown4 hgrow4)
      all_goals
        have E3 := Lib.hid k3
        have G4 := Lib.hid hg4
        clear k3 hown4 hgrow4 hg4
        go_wp2_with fail
        go_ret
        exact GotAdd.good HG.out HMX.out (by rw [HD.out]; rfl) E3.out.1 (HO.out _ E3.out.2) (fun k hk => by
          obtain ⟨a, ha, rfl⟩ := hk
          injection ha with ha
          subst ha
          rcases G4.out with h | h
          · exact .inl (own_blk h)
          · exact .inr (by have := HSZ.out; show W.heap.size ≤ g2; omega))
  · have HMX : Hid (max x.lt t = x.lt) := Lib.hid (by omega)
    have cd := fun w hw => due_c ⟨x.every, x.L, o, p, x.lt⟩ A c base b p w hw HOP.out.2 (by show x.L.length ≤ 1000000; omega)
    change ∀ w, _ → Calls _ _ _ w (Good w (.bool (dueB x p))) at cd
    have HX2 : Hid (IxIs ((W.setCell ⟨b, 2, none⟩ (.complex .f64 (fl o) (fl p))).setCell ⟨b, 3, none⟩ (.int .i64 x.lt)) base b ⟨x.every, x.L, o, p, x.lt⟩ A c) := Lib.hid (HX.out.stored HOP.out.1 HOP.out.2)
    have HO2 : Hid (Off (fun k => k = b ∨ blk A k) W ((W.setCell ⟨b, 2, none⟩ (.complex .f64 (fl o) (fl p))).setCell ⟨b, 3, none⟩ (.int .i64 x.lt))) := Lib.hid (((Off.refl _ W).set (p := ⟨b, 2, none⟩) (.inl (.inl rfl)) _).set (p := ⟨b, 3, none⟩) (.inl (.inl rfl)) _)
    go_enter Tryz.func85, Tryz.ntmps85
    go_wp2_with (first | ((with_reducible refine (co _).mono ?_); rintro en w1 ⟨rfl, hw⟩; (have hw' := hw.symm; subst hw')) | ((with_reducible refine (cp _).mono ?_); rintro en w1 ⟨rfl, hw⟩; (have hw' := hw.symm; subst hw')) | ((with_reducible refine (ct _).mono ?_); rintro en w1 ⟨rfl, hw⟩; (have hw' := hw.symm; subst hw')) | ((with_reducible refine (cr _ HX.out).mono ?_); rintro en w1 ⟨rfl, hw⟩; (have hw' := hw.symm; subst hw')) | ((with_reducible refine (cj _).mono ?_); rintro en w1 ⟨rfl, hw⟩; (have hw' := hw.symm; subst hw')))
    (with_reducible refine (cd _ HX2.out).mono ?_)
    rintro en w3 ⟨rfl, hb3⟩
    have HX3 := Lib.hid (HX2.out.later hb3)
    have HO3 := Lib.hid (HO2.out.later hb3)
    clear hb3 HX2 HO2 c0 c1 c2 c3 f0 f1 f2 f3
    cases hd : dueB x p with
    | false =>
      have HD := Lib.hid hd
      clear hd
      go_wp2_with fail
      go_ret
      exact GotAdd.good HG.out HMX.out (by rw [HD.out]; rfl) HX3.out HO3.out (fun k hk => .inl hk)
    | true =>
      have HD := Lib.hid hd
      clear hd
      have hX4 := HX3.out.later (Below.refl _ w3).drew
      obtain ⟨c0, c1, c2, c3, f0, f1, f2, f3⟩ := hX4.cells
      simp only at c0 c1 c2 c3
      obtain ⟨d0, d1, d2, d3, e0, e1, e2, e3⟩ := (HX3.out.later ((Below.refl w3.heap.size w3).alloc (Nat.le_refl _) (.cells #[.complex .f64 (fl o) (fl p), .int .i64 x.lt] 153))).cells
      simp only at d0 d1 d2 d3
      have hF := fun g cap w' hown hg => HX3.out.appended (w' := w') (g := g) (cap := cap) (e := (o, p, x.lt)) ⟨HOP.out.1, HOP.out.2⟩ (o := .cells #[.complex .f64 (fl o) (fl p), .int .i64 x.lt] 153) hown hg
      have hrow := own_below hX4.row ((Below.refl w3.drew.heap.size w3.drew).alloc (Nat.le_refl _) (.cells #[.complex .f64 (fl o) (fl p), .int .i64 x.lt] 153))
      have hnw := news_at9 (Box.new w3.drew 153 #[.complex .f64 (fl o) (fl p), .int .i64 x.lt])
      have hbw : base ≤ w3.heap.size := Nat.le_trans hbase HO3.out.size
      have h1c := ent_one (fl o) (fl p) x.lt
      simp only at hF hrow
      have HO := Lib.hid (fun w' (h : Off (fun k => k = b ∨ blk A k) w3 w') => HO3.out.trans h (fun i _ h => h))
      have HSZ := Lib.hid HO3.out.size
      obtain ⟨i0, hq, hqz, hqs, hqb⟩ := info_parts entInfo
      clear hX4 HX3 HO3 f0 f2 f3 e0 e2 e3
      generalize fl o = zo at *
      generalize fl p = zp at *
      have HF := Lib.hid hF
      clear hF
      go_wp2_with fail
      go_region_law (refine step_append_lies (w3.alloc (.cells #[.complex .f64 zo zp, .int .i64 x.lt] 153)).drew rfl (.tmp 55) (.tmp 65) 111 rfl base 153 i0 (.agg #[.complex .f64 0 0, .int .i64 0]) 2 24 Tryz.underlying111 hq hqz hqs hqb rfl (by decide) (.slice A x.L.length c) x.L.length (entC x.L) (by simp [Act.eval]) hrow ⟨w3.heap.size, 0, none⟩ 1 1 [.complex .f64 zo zp, .int .i64 x.lt] (by simp [Act.eval]) rfl hnw h1c (by decide) (by unfold maxLen; omega) (by omega) (by simp; omega) (w3.heap.size + 1) (by simp) ?_; intro g2 cap2 w4 hown4 hgrow4 hg4 hlt4; obtain ⟨k1, k2, k3⟩ := HF.out _ _ w4 hown4 hgrow4)
      all_goals
        have E3 := Lib.hid k3
        have G4 := Lib.hid hg4
        clear k3 hown4 hgrow4 hg4
        go_wp2_with fail
        go_ret
        exact GotAdd.good HG.out HMX.out (by rw [HD.out]; rfl) E3.out.1 (HO.out _ E3.out.2) (fun k hk => by
          obtain ⟨a, ha, rfl⟩ := hk
          injection ha with ha
          subst ha
          rcases G4.out with h | h
          · exact .inl (own_blk h)
          · exact .inr (by have := HSZ.out; show W.heap.size ≤ g2; omega))
end Go.Proofs.YtjnphajkoopkgaaGreatDoor.Ix
