/- Merged texts. What each proves is told at its head. -/
import Derived.Test.YtjnphajkoopkgaaGreatDoorTB
import Derived.Lib.Walk
import Derived.Lib.SliceRun
/- segment: since: the batches from a place on: by a contract. No condition. -/
namespace Go.Proofs.YtjnphajkoopkgaaGreatDoor
open Go.RowKit
set_option linter.unusedVariables false
def GotSSearch (W : World) (n : Nat) (Q : Nat → Bool) (en : Ending) (w' : World) : Prop :=
  ∃ r : Nat, en = .returned (.int .i64 r) ∧ r ≤ n ∧ (∀ k, k < r → Q k = false) ∧ (∀ k, r ≤ k → k < n → Q k = true) ∧ Below W.heap.size W w'
structure SSrS (W : World) (n : Nat) (Q : Nat → Bool) (a b : Nat) (w : World) : Prop where
  ab : a ≤ b
  bn : b ≤ n
  lo : ∀ k, k < a → Q k = false
  hi : ∀ k, b ≤ k → k < n → Q k = true
  bel : Below W.heap.size W w
theorem SSrS.up {W w w' : World} {n a b m : Nat} {Q : Nat → Bool} (h : SSrS W n Q a b w) (hb : Below w.heap.size w w') (hm : a ≤ m) (hm2 : m < b) (hmono : ∀ i j, i ≤ j → j < n → Q i = true → Q j = true) (hq : Q m = false) : SSrS W n Q (m + 1) b w' := by
  refine ⟨hm2, h.bn, fun k hk => ?_, h.hi, h.bel.trans (hb.mono h.bel.size)⟩
  cases hk2 : Q k with
  | false => rfl
  | true =>
    have := hmono k m (by omega) (by have := h.bn; omega) hk2
    rw [hq] at this
    cases this
theorem SSrS.down {W w w' : World} {n a b m : Nat} {Q : Nat → Bool} (h : SSrS W n Q a b w) (hb : Below w.heap.size w w') (hm : a ≤ m) (hm2 : m < b) (hmono : ∀ i j, i ≤ j → j < n → Q i = true → Q j = true) (hq : Q m = true) : SSrS W n Q a m w' :=
  ⟨hm, by have := h.bn; omega, h.lo, fun k hk hkn => hmono m k hk hkn hq, h.bel.trans (hb.mono h.bel.size)⟩
set_option maxHeartbeats 4000000 in
set_option maxRecDepth 100000 in
theorem ssearch_c (n : Nat) (P1 P2 : Nat) (Q : Nat → Bool) (W : World) (hn : n ≤ 1000000)
    (hf : ∀ i, i < n → ∀ w, Below W.heap.size W w → Calls Tryz.prog 75 #[.int .i64 (i : Nat), .pointer (some ⟨P1, 0, none⟩), .pointer (some ⟨P2, 0, none⟩)] w (Good w (.bool (Q i))))
    (hmono : ∀ i j, i ≤ j → j < n → Q i = true → Q j = true) :
    Calls Tryz.prog 74 #[.int .i64 n, .func (.func 75) #[] #[.pointer (some ⟨P1, 0, none⟩), .pointer (some ⟨P2, 0, none⟩)]] W (GotSSearch W n Q) := by
  have HF := Lib.hid hf
  have HM := Lib.hid hmono
  have H0 : Hid (SSrS W n Q 0 n W) := Lib.hid ⟨Nat.zero_le _, Nat.le_refl _, (fun k hk => by omega), (fun k h1 h2 => by omega), Below.refl _ _⟩
  clear hf hmono
  go_enter Tryz.func74, Tryz.ntmps74
  go_wp2_with fail
  go_loopw [5, 6] (fun i j wr => ∃ a b : Nat, i = .int .i64 a ∧ j = .int .i64 b ∧ SSrS W n Q a b wr) (fun i j _ => (intOf j).toNat - (intOf i).toNat)
  case atStart => exact ⟨0, n, rfl, rfl, H0.out⟩
  case round =>
    obtain ⟨a, b, rfl, rfl, hS⟩ := hrel
    clear H0
    have hbn := hS.bn
    by_cases hab : a < b
    · have habi : (a : Int) < (b : Int) := by omega
      obtain ⟨m, hm⟩ : ∃ m : Nat, m = (a + b) / 2 := ⟨_, rfl⟩
      have hm1 : a ≤ m := by omega
      have hm2 : m < b := by omega
      have g1 : IntKind.i64.wrap ((a : Int) + (b : Int)) = (a : Int) + (b : Int) := IntWalk.i64_in _ (by omega)
      have cf := HF.out m (by omega) wr hS.bel
      have HS := Lib.hid hS
      have HMM := Lib.hid (And.intro hm1 hm2)
      have hm6 : m ≤ 1000000 := by omega
      have g2 : ((a : Int) + (b : Int)) / 2 = (m : Int) := by omega
      cases hq : Q m with
      | true =>
        rw [hq] at cf
        have HQ := Lib.hid hq
        clear hS hbn hm hq
        go_wp2_with fail
        (with_reducible refine cf.mono ?_)
        rintro e w1 ⟨rfl, hb1⟩
        have H1 := Lib.hid (HS.out.down hb1 HMM.out.1 HMM.out.2 HM.out HQ.out)
        clear hb1 cf
        go_wp2_with fail
        go_roundw
        case rel => exact ⟨a, m, rfl, rfl, H1.out⟩
        case measure => simp [intOf]; omega
      | false =>
        rw [hq] at cf
        have HQ := Lib.hid hq
        clear hS hbn hm hq
        go_wp2_with fail
        (with_reducible refine cf.mono ?_)
        rintro e w1 ⟨rfl, hb1⟩
        have H1 := Lib.hid (HS.out.up hb1 HMM.out.1 HMM.out.2 HM.out HQ.out)
        clear hb1 cf
        go_wp2_with fail
        go_roundw
        case rel => exact ⟨m + 1, b, by go_num, rfl, H1.out⟩
        case measure => simp [intOf]; omega
    · have hba : b = a := by have := hS.ab; omega
      subst hba
      have HS := Lib.hid hS
      clear hS hbn
      go_wp2_with fail
      go_ret
      exact ⟨b, rfl, HS.out.bn, HS.out.lo, HS.out.hi, HS.out.bel⟩
def posB (s : SG) (at_ : Int) (i : Nat) : Bool := match s.L[i]? with | some x => decide (at_ ≤ x.pos) | none => true
set_option maxHeartbeats 4000000 in
set_option maxRecDepth 100000 in
theorem since1_c (s : SG) (g q P1 P2 i : Nat) (at_ : Int) (x : PX) (w : World) (h : SgIs w g q s) (h1 : w.cell? ⟨P1, 0, none⟩ = some (sp q)) (h2 : w.cell? ⟨P2, 0, none⟩ = some (.int .i64 at_)) (hx : s.L[i]? = some x) (hl : s.L.length ≤ 1000000) :
    Calls Tryz.prog 75 #[.int .i64 (i : Nat), .pointer (some ⟨P1, 0, none⟩), .pointer (some ⟨P2, 0, none⟩)] w (Good w (.bool (posB s at_ i))) := by
  obtain ⟨y0, y1, y2, y3, y4⟩ := h.cells
  have hil := (List.getElem?_eq_some_iff.1 hx).1
  obtain ⟨b, hB, hbl, hd, z0, z1, z2, z3, z4, z5, z6, z7⟩ := h.place hx
  have e : posB s at_ i = decide (at_ ≤ x.pos) := by unfold posB; rw [hx]
  rw [e]
  rw [hB] at y4
  unfold sp at h1
  have hki : (i : Int) < (s.L.length : Int) := by omega
  have hk0 : (0 : Int) ≤ (i : Int) := by omega
  generalize x.pos = xp at *
  clear h hx e hB
  generalize hk8 : i * 8 = k8 at *
  go_enter Tryz.func75, Tryz.ntmps75
  go_wp2_with fail
  go_quiet (fail)
  go_wp2_with fail
  go_ret
  exact ⟨by first | rfl | simp, (Below.refl _ _).trans ⟨rfl, rfl, rfl, Nat.le_refl _, fun _ _ => rfl⟩⟩
theorem lenP_take_le (L : List PX) {i j : Nat} (h : i ≤ j) : lenP (L.take i) ≤ lenP (L.take j) := by
  have e : L.take j = L.take i ++ (L.take j).drop i := by
    have h1 := (List.take_append_drop i (L.take j)).symm
    rwa [List.take_take, Nat.min_eq_left h] at h1
  have h2 : lenP (L.take j) = lenP (L.take i) + lenP ((L.take j).drop i) := by
    conv => lhs; rw [e]
    unfold lenP
    rw [List.map_append, List.sum_append]
  omega
theorem posB_mono {s : SG} (h : SgOk s) (at_ : Int) : ∀ i j, i ≤ j → j < s.L.length → posB s at_ i = true → posB s at_ j = true := by
  intro i j hij hj hp
  obtain ⟨x, hx⟩ : ∃ x, s.L[i]? = some x := ⟨_, List.getElem?_eq_getElem (by omega)⟩
  obtain ⟨y, hy⟩ : ∃ y, s.L[j]? = some y := ⟨_, List.getElem?_eq_getElem hj⟩
  unfold posB at hp ⊢
  rw [hx] at hp
  rw [hy]
  have h1 := (h.pos i x hx).1
  have h2 := (h.pos j y hy).1
  have h3 := lenP_take_le s.L hij
  have h4 : at_ ≤ x.pos := of_decide_eq_true hp
  exact decide_eq_true (by omega)
def GotSn (W : World) (s : SG) (at_ : Int) (e : Ending) (w' : World) : Prop :=
  ∃ (r : Nat) (A : Option Addr) (d : Nat), e = .returned (.slice A (s.L.length - r) d) ∧ r ≤ s.L.length ∧ (∀ k, k < r → posB s at_ k = false) ∧ (∀ k, r ≤ k → k < s.L.length → posB s at_ k = true) ∧ (r < s.L.length → (∃ b, s.B = some ⟨b, 0, none⟩ ∧ A = some ⟨b, r * 8, none⟩) ∧ s.L.length - r ≤ d) ∧ Below W.heap.size W w'
set_option maxHeartbeats 8000000 in
set_option maxRecDepth 100000 in
theorem since_c (s : SG) (g q : Nat) (at_ : Int) (W : World) (h : SgIs W g q s) (hok : SgOk s) (hl : s.L.length ≤ 1000000) :
    Calls Tryz.prog 43 #[sp q, .int .i64 at_] W (GotSn W s at_) := by
  obtain ⟨W1, hW1⟩ : ∃ w, (W.alloc (.cells #[sp q] 35)).alloc (.cells #[.int .i64 at_] 3) = w := ⟨_, rfl⟩
  have HA : Hid (Below W.heap.size W W1 ∧ Box W1 W.heap.size 35 #[sp q] ∧ Box W1 (W.heap.size + 1) 3 #[.int .i64 at_] ∧ W1.heap.size = W.heap.size + 1 + 1) := Lib.hid (by
    rw [← hW1]
    refine ⟨((Below.refl _ W).alloc (Nat.le_refl _) _).alloc (by simp) _, (Box.new W _ _).alloc _, ?_, by simp⟩
    have := Box.new (W.alloc (.cells #[sp q] 35)) 3 #[.int .i64 at_]
    rwa [World.size_alloc] at this)
  have hX1 := h.later HA.out.1
  have y0 := (HA.out.2.1.cell 0).trans (show _ = some (sp q) from rfl)
  obtain ⟨c0, c1, c2, c3, c4⟩ := hX1.cells
  have hsr := ssearch_c s.L.length W.heap.size (W.heap.size + 1) (posB s at_) W1 hl (fun i hi w hb =>
    since1_c s g q W.heap.size (W.heap.size + 1) i at_ _ w (hX1.later hb) (((HA.out.2.1.later hb).cell 0).trans rfl) (((HA.out.2.2.1.later hb).cell 0).trans rfl) (List.getElem?_eq_getElem hi) hl) (posB_mono hok at_)
  have HX := Lib.hid hX1
  have hn : (s.B = none ∧ s.d = 0 ∧ s.L.length = 0) ∨ ∃ b, s.B = some ⟨b, 0, none⟩ ∧ s.L.length ≤ s.d := by
    rcases h.row.2 with ⟨hv, h0⟩ | ⟨b, cap, cur, hv, hg, hh, h4, h5, h6, h7⟩
    · injection hv with e1 e2 e3
      exact .inl ⟨e1, e3, h0⟩
    · injection hv with e1 e2 e3
      exact .inr ⟨b, e1, by rw [e3]; exact h4⟩
  unfold GotSSearch at hsr
  unfold sp at *
  clear h hX1 c0 c1 c2 c3
  go_enter Tryz.func43, Tryz.ntmps43
  go_wp2_with fail
  (with_reducible refine hsr.mono ?_)
  rintro e w2 ⟨r, rfl, hr, hlo, hhi, hb2⟩
  have H2 := Lib.hid (And.intro (HA.out.1.trans (hb2.mono HA.out.1.size)) (And.intro hlo hhi))
  have y0 := ((HA.out.2.1.later hb2).cell 0).trans (show _ = some (Value.pointer (some ⟨q, 0, none⟩)) from rfl)
  have y4 := (HX.out.later hb2).cells.2.2.2.2
  clear hlo hhi hb2 hsr hW1 c4
  have hri : ¬ ((r : Nat) : Int) < 0 := by omega
  rcases hn with ⟨hB, hd, h0⟩ | ⟨b, hB, hd⟩
  · have hr0 : r = 0 := by omega
    subst hr0
    rw [hB, hd, h0] at y4
    clear hri
    have H0 := Lib.hid h0
    have hcl : ((s.L.length : Nat) : Int) = 0 := by omega
    go_wp2_with fail
    go_ret
    exact ⟨0, none, 0, by rw [H0.out]; rfl, Nat.zero_le _, H2.out.2.1, H2.out.2.2, fun h => by have := H0.out; omega, H2.out.1⟩
  · rw [hB] at y4
    have HB := Lib.hid (And.intro hB hd)
    have hnat : ((r : Nat) : Int).toNat = r := by omega
    generalize hdd : s.d = dd at *
    generalize hnn : s.L.length = nn at *
    have HNN := Lib.hid hnn
    clear hdd hB hnn
    by_cases hdr : dd = r
    · have hnr : nn = r := by omega
      subst hdr
      have HR := Lib.hid hnr
      clear hnr
      go_wp2_with fail
      go_ret
      have e0 : s.L.length - dd = 0 := by have := HNN.out; have := HR.out; omega
      exact ⟨dd, some ⟨b, 0, none⟩, 0, by rw [e0]; rfl, by have := HNN.out; omega, H2.out.2.1, fun k hk hkn => H2.out.2.2 k hk (by have := HNN.out; omega), fun h => by have := HNN.out; have := HR.out; omega, H2.out.1⟩
    · go_wp2_with fail
      go_ret
      exact ⟨r, some ⟨b, r * 8, none⟩, dd - r, by rw [HNN.out]; rfl, by have := HNN.out; omega, H2.out.2.1, fun k hk hkn => H2.out.2.2 k hk (by have := HNN.out; omega), fun h => ⟨⟨b, HB.out.1, rfl⟩, by have := HNN.out; have := HB.out.2; omega⟩, H2.out.1⟩
end Go.Proofs.YtjnphajkoopkgaaGreatDoor
/- segment: does a batch reach a time: by a contract. No condition. -/
namespace Go.Proofs.YtjnphajkoopkgaaGreatDoor
open Go.RowKit
set_option linter.unusedVariables false
/-- Is a record of a time, or of a later one? -/
def anyT (R : List Rec) (t : Int) : Bool := R.any fun r => decide (t ≤ r.time)
set_option maxHeartbeats 4000000 in
set_option maxRecDepth 100000 in
theorem tm_c (r : Rec) (A : Option Addr) (c P : Nat) (t : Int) (W : World) (h : W.cell? ⟨P, 0, none⟩ = some (.int .i64 t)) (hl : P < W.heap.size) :
    Calls Tryz.prog 79 #[recV r A c, .pointer (some ⟨P, 0, none⟩)] W (Good W (.bool (decide (t ≤ r.time)))) := by
  obtain ⟨pl, tm, ba, ky, gn, va, hs⟩ := r
  unfold recV recC
  dsimp only
  go_enter Tryz.func79, Tryz.ntmps79
  go_wp2_with fail
  go_ret
  exact ⟨by first | rfl | simp, (Below.refl _ _).alloc (Nat.le_refl _) _⟩
/-- The index of the first that reaches, or -1. -/
def TmIdx (R : List Rec) (t : Int) (W : World) (e : Ending) (w' : World) : Prop := ∃ n : Int, e = .returned (.int .i64 n) ∧ decide (0 ≤ n) = anyT R t ∧ Below W.heap.size W w'
theorem anyT_take {R : List Rec} {k : Nat} {r : Rec} {t : Int} (hr : R[k]? = some r) (h : anyT (R.take k) t = false) : anyT (R.take (k + 1)) t = decide (t ≤ r.time) := by
  rw [List.take_add_one, hr]
  unfold anyT at *
  rw [List.any_append, h]
  simp
theorem anyT_in {R : List Rec} {k : Nat} {r : Rec} {t : Int} (hr : R[k]? = some r) (h : t ≤ r.time) : anyT R t = true := List.any_eq_true.2 ⟨r, List.mem_of_getElem? hr, decide_eq_true h⟩
set_option maxHeartbeats 8000000 in
set_option maxRecDepth 100000 in
theorem tidx_c (R : List RX) (A : Option Addr) (c P : Nat) (t : Int) (W : World) (hR : RsIn W A R) (hl : R.length ≤ 140737488351232) (h : W.cell? ⟨P, 0, none⟩ = some (.int .i64 t)) (hP : P < W.heap.size) :
    Calls Tryz.prog 103 #[.slice A R.length c, .func (.func 79) #[] #[.pointer (some ⟨P, 0, none⟩)]] W (TmIdx (R.map (·.1)) t W) := by
  have HR := Lib.hid hR
  have ct := fun (y : RX) w (hb : Below W.heap.size W w) => tm_c y.1 y.2.1 y.2.2 P t w ((hb.cell (p := ⟨P, 0, none⟩) hP).trans h) (Nat.lt_of_lt_of_le hP hb.size)
  have CT := Lib.hid ct
  clear hR ct h hP
  go_enter Tryz.func103, Tryz.ntmps103
  go_wp2_with fail
  go_loopw [5, 8] (fun i j wr => ∃ k : Nat, j = .int .i64 k ∧ k ≤ R.length ∧ anyT ((R.map (·.1)).take k) t = false ∧ Below W.heap.size W wr) (fun _ j _ => R.length - (intOf j).toNat)
  case atStart => exact ⟨0, rfl, Nat.zero_le _, rfl, Below.refl _ _⟩
  case round =>
    obtain ⟨k, rfl, hk, hn, hbw⟩ := hrel
    by_cases hkl : k < R.length
    · obtain ⟨y, hy⟩ : ∃ y, R[k]? = some y := ⟨_, List.getElem?_eq_getElem hkl⟩
      obtain ⟨b, off, rfl, hbl, hc⟩ := (HR.out.below hbw) (by omega)
      obtain ⟨⟨p0, p1, p2, p3, p4, p5, p6⟩, _⟩ := hc k y hy
      have hym : (R.map (·.1))[k]? = some y.1 := by rw [List.getElem?_map, hy]; rfl
      have HY := Lib.hid (And.intro (anyT_take (t := t) hym hn) (fun h => anyT_in (t := t) hym h))
      have ct := CT.out y wr hbw
      have hki : (k : Int) < (R.length : Int) := by omega
      have hk0 : (0 : Int) ≤ (k : Int) := by omega
      obtain ⟨⟨pl, tm, ba, ky, gn, va, hs⟩, hA2, hcc⟩ := y
      have HW := Lib.hid hbw
      unfold recV recC at ct
      dsimp only at *
      clear hbw hc hy hn hym
      generalize hk7 : k * 7 = k7 at *
      by_cases htm : t ≤ tm
      · rw [decide_eq_true htm] at ct
        have HT := Lib.hid htm
        clear htm
        go_wp2_with fail
        (with_reducible refine ct.mono ?_)
        rintro e w1 ⟨rfl, hb1⟩
        have HB := Lib.hid (HW.out.trans (hb1.mono HW.out.size))
        clear ct hb1
        go_wp2_with fail
        go_ret
        exact ⟨k, rfl, by rw [HY.out.2 HT.out]; exact decide_eq_true (by omega), HB.out⟩
      · rw [decide_eq_false htm] at ct
        have HT := Lib.hid htm
        clear htm
        go_wp2_with fail
        (with_reducible refine ct.mono ?_)
        rintro e w1 ⟨rfl, hb1⟩
        have HB := Lib.hid (HW.out.trans (hb1.mono HW.out.size))
        clear ct hb1
        go_wp2_with fail
        exact ⟨⟨k + 1, by go_num, hkl, by rw [HY.out.1]; exact decide_eq_false (Int.not_le.2 HT.out), HB.out⟩, by simp [intOf]; omega⟩
    · have hki : ¬ (k : Int) < (R.length : Int) := by omega
      have e1 : (R.map (·.1)).take k = R.map (·.1) := List.take_of_length_le (by rw [List.length_map]; omega)
      rw [e1] at hn
      have HN := Lib.hid (And.intro hn hbw)
      clear hn hbw e1
      go_wp2_with fail
      go_ret
      exact ⟨-1, rfl, by rw [HN.out.1]; rfl, HN.out.2⟩
theorem cont_c (R : List RX) (A : Option Addr) (c P : Nat) (t : Int) (W : World) (ci : Calls Tryz.prog 103 #[.slice A R.length c, .func (.func 79) #[] #[.pointer (some ⟨P, 0, none⟩)]] W (TmIdx (R.map (·.1)) t W)) :
    Calls Tryz.prog 78 #[.slice A R.length c, .func (.func 79) #[] #[.pointer (some ⟨P, 0, none⟩)]] W (Good W (.bool (anyT (R.map (·.1)) t))) := by
  go_enter Tryz.func78, Tryz.ntmps78
  go_wp2_with fail
  (with_reducible refine ci.mono ?_)
  rintro e w1 ⟨n, rfl, hn, hb1⟩
  have HN := Lib.hid (And.intro hn hb1)
  clear ci hn hb1
  go_wp2_with fail
  go_ret
  exact ⟨ret_bool (by rw [← HN.out.1]), HN.out.2⟩
set_option maxHeartbeats 4000000 in
set_option maxRecDepth 100000 in
theorem reach_c (x : PX) (t : Int) (W : World) (h : RsIn W x.A x.R) (hl : x.R.length ≤ 1000000) : Calls Tryz.prog 45 #[.agg (plcV x), .int .i64 t] W (Good W (.bool (anyT (x.R.map (·.1)) t))) := by
  obtain ⟨⟨base, span, prod, epoch, seq⟩, R, A, c, pos, size⟩ := x
  unfold plcV
  dsimp only at *
  have hb1 : Below W.heap.size W (W.alloc (.cells #[.int .i64 base, .int .i64 span, .int .i64 prod, .int .i64 epoch, .int .i64 seq, .slice A R.length c, .int .i64 pos, .int .i64 size] 91)) := (Below.refl _ _).alloc (Nat.le_refl _) _
  have hb2 := hb1.alloc hb1.size (.cells #[.int .i64 t] 3)
  have hx := Box.new (W.alloc (.cells #[.int .i64 base, .int .i64 span, .int .i64 prod, .int .i64 epoch, .int .i64 seq, .slice A R.length c, .int .i64 pos, .int .i64 size] 91)) 3 #[.int .i64 t]
  rw [World.size_alloc] at hx
  have ci := tidx_c R A c (W.heap.size + 1) t _ (h.below hb2) (by omega) ((hx.cell 0).trans rfl) hx.lt
  have HB := Lib.hid hb2
  clear h hb1 hb2 hx
  go_enter Tryz.func45, Tryz.ntmps45
  have hmf : ∀ (fn : Fn) (first cap : Array Value) (w : World), (Instr.makeFunc fn first cap).run Tryz.prog w = .ok (.func fn first cap) w := fun _ _ _ _ => rfl
  have cc := cont_c R A c (W.heap.size + 1) t _ ci
  clear ci
  go_wp2_with fail
  (with_reducible refine cc.mono ?_)
  rintro e w1 ⟨rfl, hb⟩
  have HB1 := Lib.hid (HB.out.trans (hb.mono HB.out.size))
  clear cc hb
  go_wp2_with fail
  go_ret
  exact ⟨rfl, HB1.out⟩
end Go.Proofs.YtjnphajkoopkgaaGreatDoor
/- segment: a batch with lists of its own: by a contract. No condition but that there are not too many. -/
namespace Go.Proofs.YtjnphajkoopkgaaGreatDoor
open Go.RowKit
set_option linter.unusedVariables false
def GotCl (W : World) (t : TypeId) (sz n : Nat) (xs : List Value) (e : Ending) (w' : World) : Prop := ∃ A c, e = .returned (.slice A n c) ∧ w'.ownsRow W.heap.size t sz (.slice A n c) n xs ∧ Below W.heap.size W w'
set_option maxHeartbeats 4000000 in
set_option maxRecDepth 100000 in
theorem clone_recs (A : Option Addr) (n c : Nat) (xs : List Value) (W : World) (hs : SrcZ 7 W (.slice A n c) n xs) (hl : xs.length = n * 7) (h1 : ∀ y ∈ xs, y.oneCell' = true) (hn : n ≤ 1000000) :
    Calls Tryz.prog 88 #[.slice A n c] W (GotCl W 85 7 n xs) := by
  have q22 : ∀ (w : World) (a : Option Addr) (n c n' c' : Nat), (binOp .eql 42 (.slice a n c) (.slice none n' c')).run Tryz.prog w = .ok (.bool a.isNone) w := fun w a n c n' c' => Lib.run_eql_slice_nil w _ _ a n c n' c' Tryz.underlying42
  cases A with
  | none =>
    have hz : n = 0 ∧ xs = [] := by
      rcases hs with ⟨c', hv, h0, hx⟩ | ⟨a, c', hv, _⟩
      · exact ⟨h0, hx⟩
      · cases hv
    obtain ⟨rfl, rfl⟩ := hz
    go_enter Tryz.func88, Tryz.ntmps88
    go_wp2_with fail
    go_ret
    exact ⟨none, 0, rfl, World.ownsRow_nil _ _ _ _, Below.refl _ _⟩
  | some a =>
    have hc : ∀ j y, xs[j]? = some y → W.cell? (a.add j) = some y := by
      rcases hs with ⟨c', hv, h0, hx⟩ | ⟨a', c', hv, _, hc⟩
      · cases hv
      · injection hv with e1
        injection e1 with e1
        subst e1
        exact hc
    obtain ⟨i0, hi, hz0, hz1, hz2⟩ := info_parts recInfo
    go_enter Tryz.func88, Tryz.ntmps88
    go_wp2_with (at_builtin; refine wpList_append_own _ rfl _ _ 42 rfl W.heap.size 85 i0 _ 7 _ Tryz.underlying42 hi hz0 hz1 hz2 rfl (by decide) _ _ _ rfl (World.ownsRow_made W #[] 0 (Nat.le_refl _) (Nat.zero_le _) (by simp)) a n c xs rfl ?qc1 ?qc2 ?qc3 ?qc4 ?qc5 ?qc6 ?_)
    case qc1 => exact hl
    case qc2 =>
      intro j u hj
      exact Lib.cell?_alloc_some _ (hc j u hj)
    case qc3 => exact h1
    case qc4 => rw [Nat.zero_add]; unfold maxLen; omega
    case qc5 => rw [Nat.zero_add]; omega
    case qc6 => simp
    intro v' w1 hown hgrow hnil
    obtain ⟨A', c', rfl⟩ := own_slice hown
    have HO := Lib.hid (And.intro hown hgrow)
    clear hown hgrow hnil hc
    go_wp2_with fail
    go_ret
    refine ⟨A', c', by simp, by simpa using HO.out.1, ((Below.refl _ W).alloc (Nat.le_refl _) _).grown HO.out.2 (by simp) (by intro k hk; simp [Value.ownBlock] at hk; omega)⟩
set_option maxHeartbeats 4000000 in
set_option maxRecDepth 100000 in
theorem clone_heads (A : Option Addr) (n c : Nat) (xs : List Value) (W : World) (hs : SrcZ 2 W (.slice A n c) n xs) (hl : xs.length = n * 2) (h1 : ∀ y ∈ xs, y.oneCell' = true) (hn : n ≤ 1000000) :
    Calls Tryz.prog 89 #[.slice A n c] W (GotCl W 87 2 n xs) := by
  have q22 : ∀ (w : World) (a : Option Addr) (n c n' c' : Nat), (binOp .eql 83 (.slice a n c) (.slice none n' c')).run Tryz.prog w = .ok (.bool a.isNone) w := fun w a n c n' c' => Lib.run_eql_slice_nil w _ _ a n c n' c' Tryz.underlying83
  cases A with
  | none =>
    have hz : n = 0 ∧ xs = [] := by
      rcases hs with ⟨c', hv, h0, hx⟩ | ⟨a, c', hv, _⟩
      · exact ⟨h0, hx⟩
      · cases hv
    obtain ⟨rfl, rfl⟩ := hz
    go_enter Tryz.func89, Tryz.ntmps89
    go_wp2_with fail
    go_ret
    exact ⟨none, 0, rfl, World.ownsRow_nil _ _ _ _, Below.refl _ _⟩
  | some a =>
    have hc : ∀ j y, xs[j]? = some y → W.cell? (a.add j) = some y := by
      rcases hs with ⟨c', hv, h0, hx⟩ | ⟨a', c', hv, _, hc⟩
      · cases hv
      · injection hv with e1
        injection e1 with e1
        subst e1
        exact hc
    obtain ⟨i0, hi, hz0, hz1, hz2⟩ := info_parts infoHeader
    go_enter Tryz.func89, Tryz.ntmps89
    go_wp2_with (at_builtin; refine wpList_append_own _ rfl _ _ 83 rfl W.heap.size 87 i0 _ 2 _ Tryz.underlying83 hi hz0 hz1 hz2 rfl (by decide) _ _ _ rfl (World.ownsRow_made W #[] 0 (Nat.le_refl _) (Nat.zero_le _) (by simp)) a n c xs rfl ?qc1 ?qc2 ?qc3 ?qc4 ?qc5 ?qc6 ?_)
    case qc1 => exact hl
    case qc2 =>
      intro j u hj
      exact Lib.cell?_alloc_some _ (hc j u hj)
    case qc3 => exact h1
    case qc4 => rw [Nat.zero_add]; unfold maxLen; omega
    case qc5 => rw [Nat.zero_add]; omega
    case qc6 => simp
    intro v' w1 hown hgrow hnil
    obtain ⟨A', c', rfl⟩ := own_slice hown
    have HO := Lib.hid (And.intro hown hgrow)
    clear hown hgrow hnil hc
    go_wp2_with fail
    go_ret
    refine ⟨A', c', by simp, by simpa using HO.out.1, ((Below.refl _ W).alloc (Nat.le_refl _) _).grown HO.out.2 (by simp) (by intro k hk; simp [Value.ownBlock] at hk; omega)⟩
theorem recsC_len : ∀ L : List RX, (recsC L).length = L.length * 7
  | [] => rfl
  | x :: l => by
    show ((recC x.1 x.2.1 x.2.2).toList ++ recsC l).length = _
    rw [List.length_append, recsC_len l, List.length_cons]
    show 7 + _ = _
    omega
theorem recsC_one (L : List RX) : ∀ u ∈ recsC L, u.oneCell' = true := fun u hu => by
  unfold recsC at hu
  obtain ⟨x, _, hx⟩ := List.mem_flatMap.1 hu
  exact rec_one x.1 x.2.1 x.2.2 u hx
theorem recsC_set (L : List RX) : ∀ (k : Nat) (r : Rec) (A A' : Option Addr) (c c' : Nat), L[k]? = some (r, A, c) → (recsC L).set (k * 7 + 6) (.slice A' r.heads.length c') = recsC (L.set k (r, A', c')) := by
  induction L with
  | nil => intro k r A A' c c' h; cases h
  | cons x l ih =>
    intro k r A A' c c' h
    match k with
    | 0 =>
      have : x = (r, A, c) := by simpa using h
      subst this
      rfl
    | k + 1 =>
      have h2 := ih k r A A' c c' (by simpa using h)
      show ((recC x.1 x.2.1 x.2.2).toList ++ recsC l).set ((k + 1) * 7 + 6) _ = (recC x.1 x.2.1 x.2.2).toList ++ recsC (l.set k _)
      have hl : (recC x.1 x.2.1 x.2.2).toList.length = 7 := rfl
      rw [List.set_append_right _ _ (by rw [hl]; omega), hl, show (k + 1) * 7 + 6 - 7 = k * 7 + 6 by omega, h2]
/-- A copy under way: the first ones have headers of their own. -/
structure CpyS (W : World) (R : List RX) (k : Nat) (A : Option Addr) (c : Nat) (L : List RX) (w : World) : Prop where
  row : w.ownsRow W.heap.size 85 7 (.slice A L.length c) L.length (recsC L)
  heads : ∀ j y, j < k → L[j]? = some y → w.ownsRow W.heap.size 87 2 (.slice y.2.1 y.1.heads.length y.2.2) y.1.heads.length (headCells y.1.heads)
  rest : ∀ j, k ≤ j → L[j]? = R[j]?
  same : L.map (·.1) = R.map (·.1)
  bel : Below W.heap.size W w
theorem List.set_getElem?_self' {α : Type} {l : List α} {k : Nat} {x : α} (h : l[k]? = some x) : l.set k x = l := by
  obtain ⟨hk, he⟩ := List.getElem?_eq_some_iff.1 h
  rw [← he]
  exact List.set_getElem_self hk
theorem CpyS.later {W w w' : World} {R L : List RX} {k c : Nat} {A : Option Addr} (h : CpyS W R k A c L w) (hb : Below w.heap.size w w') : CpyS W R k A c L w' :=
  ⟨own_below h.row hb, fun j y hj hy => own_below (h.heads j y hj hy) hb, h.rest, h.same, h.bel.trans (hb.mono h.bel.size)⟩
theorem cpy_result {w : World} (g : Nat) {v0 v1 v2 v3 v4 v5 : Value} (h : Box w g 44 #[v0, v1, v2, v3, v4, v5]) (tmps : Array Value) (ht : (tmps[2]?).getD undef = .pointer (some ⟨g, 0, none⟩)) :
    (results Tryz.f51 tmps).run Tryz.prog w = .ok (.agg #[v0, v1, v2, v3, v4, v5]) w := by
  have c0 := (h.cell 0).trans (show _ = some v0 from rfl)
  have c1 := (h.cell 1).trans (show _ = some v1 from rfl)
  have c2 := (h.cell 2).trans (show _ = some v2 from rfl)
  have c3 := (h.cell 3).trans (show _ = some v3 from rfl)
  have c4 := (h.cell 4).trans (show _ = some v4 from rfl)
  have c5 := (h.cell 5).trans (show _ = some v5 from rfl)
  simp [results, Tryz.results51, go_sem, ht, c0, c1, c2, c3, c4, c5]
theorem src_own {w : World} {base n c sz : Nat} {t : TypeId} {A : Option Addr} {xs : List Value} (h : w.ownsRow base t sz (.slice A n c) n xs) (hl : xs.length = n * sz) : SrcZ sz w (.slice A n c) n xs := by
  rcases h.2 with ⟨hv, h0⟩ | ⟨g, cap, cur, hv, _, _, _⟩
  · injection hv with e1 _ e3
    subst e1 e3
    subst h0
    exact .inl ⟨_, rfl, rfl, List.eq_nil_of_length_eq_zero (by simpa using hl)⟩
  · have hown := h
    injection hv with e1 _ e3
    subst e1 e3
    exact .inr ⟨_, _, rfl, hl, hown.cells rfl⟩
structure CpB (W : World) (b : BN) (v : Value) (w : World) : Prop where
  two : Box w (W.heap.size + 1) 44 #[.int .i64 0, .int .i64 0, .int .i64 0, .int .i64 0, .int .i64 0, .slice none 0 0]
  three : Box w (W.heap.size + 1 + 1) 44 #[.int .i64 b.base, .int .i64 b.span, .int .i64 b.prod, .int .i64 b.epoch, .int .i64 b.seq, v]
theorem CpB.later {W w w' : World} {b : BN} {v : Value} (h : CpB W b v w) (hb : Below w.heap.size w w') : CpB W b v w' := ⟨h.two.later hb, h.three.later hb⟩
/-- A record's headers are its own now. -/
theorem CpyS.next {W w : World} {R L : List RX} {k c gr : Nat} {y : RX} {A2 : Option Addr} {c2 : Nat} (h : CpyS W R k (some ⟨gr, 0, none⟩) c L w) (hy : L[k]? = some y) (ho : w.ownsRow W.heap.size 87 2 (.slice A2 y.1.heads.length c2) y.1.heads.length (headCells y.1.heads)) :
    CpyS W R (k + 1) (some ⟨gr, 0, none⟩) c (L.set k (y.1, A2, c2)) (w.setCell ⟨gr, k * 7 + 6, none⟩ (.slice A2 y.1.heads.length c2)) ∧ ∀ b (cs : Array Value), Box w b 44 cs → Box (w.setCell ⟨gr, k * 7 + 6, none⟩ (.slice A2 y.1.heads.length c2)) b 44 cs := by
  obtain ⟨o1, g1⟩ := h.row.stored (k * 7 + 6) (.slice A2 y.1.heads.length c2)
  have hk := (List.getElem?_eq_some_iff.1 hy).1
  have hge := (h.row.lt gr rfl).1
  have hO : Off (· = gr) w (w.setCell ⟨gr, k * 7 + 6, none⟩ (.slice A2 y.1.heads.length c2)) := Off.one w ⟨gr, k * 7 + 6, none⟩ _
  have htg : TyB [85] w gr := .row h.row rfl (List.mem_singleton.2 rfl)
  have hown : ∀ {n : Nat} {v : Value} {xs : List Value}, w.ownsRow W.heap.size 87 2 v n xs → (w.setCell ⟨gr, k * 7 + 6, none⟩ (.slice A2 y.1.heads.length c2)).ownsRow W.heap.size 87 2 v n xs := fun hh =>
    own_off hh hO (fun j hj e => by
      have e' : j = gr := e
      subst e'
      exact (TyB.row hh hj (List.mem_singleton.2 rfl) (ts := [87])).apart htg (by decide))
  obtain ⟨r, A, cc⟩ := y
  refine ⟨⟨?_, fun j z hj hz => ?_, fun j hj => ?_, ?_, h.bel.trans (hO.below h.bel.size (fun j e => by have e' : j = gr := e; omega))⟩, fun b cs hb => hb.off hO (fun e => ?_)⟩
  · rw [List.length_set, ← recsC_set L k r A A2 cc c2 hy]
    exact o1
  · by_cases hjk : j = k
    · subst hjk
      rw [List.getElem?_set_self hk] at hz
      injection hz with hz
      subst hz
      exact hown ho
    · rw [List.getElem?_set_ne (fun e => hjk e.symm)] at hz
      exact hown (h.heads j z (by omega) hz)
  · rw [List.getElem?_set_ne (by omega)]
    exact h.rest j (by omega)
  · rw [← h.same, List.map_set]
    have : (L.map (·.1))[k]? = some r := by rw [List.getElem?_map, hy]; rfl
    exact List.set_getElem?_self' this
  · have e' : b = gr := e
    subst e'
    exact (TyB.box hb (List.mem_singleton.2 rfl) (ts := [44])).apart htg (by decide)
set_option maxHeartbeats 16000000 in
set_option maxRecDepth 100000 in
theorem copy_c (x : PX) (base : Nat) (W : World) (h : RowR W base (.slice x.A x.R.length x.c) x.R) (hn : x.R.length ≤ 1000) (hh : ∀ y ∈ x.R, y.1.heads.length ≤ 1000) :
    Calls Tryz.prog 51 #[.agg (plcV x)] W (CopiedB W x.b x.R) := by
  obtain ⟨⟨bs, span, prod, epoch, seq⟩, R, A, c, pos, size⟩ := x
  dsimp only at *
  have cr := fun w (hb : Below W.heap.size W w) => clone_recs A R.length c (recsC R) w (src_own (own_below h.row hb) (recsC_len R)) (recsC_len R) (recsC_one R) (by omega)
  have HH := Lib.hid h.heads
  have HL := Lib.hid hh
  unfold plcV
  dsimp only
  clear h hh
  have hb0 : Below W.heap.size W (((W.alloc (.cells #[.int .i64 bs, .int .i64 span, .int .i64 prod, .int .i64 epoch, .int .i64 seq, .slice A R.length c, .int .i64 pos, .int .i64 size] 91)).alloc (.cells #[.int .i64 0, .int .i64 0, .int .i64 0, .int .i64 0, .int .i64 0, .slice none 0 0] 44)).alloc (.cells #[.int .i64 bs, .int .i64 span, .int .i64 prod, .int .i64 epoch, .int .i64 seq, .slice A R.length c] 44)) :=
    (((Below.refl _ _).alloc (Nat.le_refl _) _).alloc (by simp) _).alloc (by simp; omega) _
  have HB0 := Lib.hid hb0
  have hc0 := cr _ hb0
  clear hb0 cr
  go_enter Tryz.func51, Tryz.ntmps51
  go_wp2_with fail
  (with_reducible refine hc0.mono ?_)
  rintro e w1 ⟨A1, c1, rfl, hown1, hb1⟩
  have hbx3 := (Box.new (((W.alloc (.cells #[.int .i64 bs, .int .i64 span, .int .i64 prod, .int .i64 epoch, .int .i64 seq, .slice A R.length c, .int .i64 pos, .int .i64 size] 91)).alloc (.cells #[.int .i64 0, .int .i64 0, .int .i64 0, .int .i64 0, .int .i64 0, .slice none 0 0] 44))) 44 #[.int .i64 bs, .int .i64 span, .int .i64 prod, .int .i64 epoch, .int .i64 seq, .slice A R.length c])
  rw [World.size_alloc, World.size_alloc] at hbx3
  have hbx2 := (Box.new (W.alloc (.cells #[.int .i64 bs, .int .i64 span, .int .i64 prod, .int .i64 epoch, .int .i64 seq, .slice A R.length c, .int .i64 pos, .int .i64 size] 91)) 44 #[.int .i64 0, .int .i64 0, .int .i64 0, .int .i64 0, .int .i64 0, .slice none 0 0]).alloc (.cells #[.int .i64 bs, .int .i64 span, .int .i64 prod, .int .i64 epoch, .int .i64 seq, .slice A R.length c] 44)
  rw [World.size_alloc] at hbx2
  have h3 := hbx3.later hb1
  have h2 := hbx2.later hb1
  have q0 := (h3.cell 0).trans (show _ = some (Value.int .i64 bs) from rfl)
  have q5 := (h3.cell 5).trans (show _ = some (Value.slice A R.length c) from rfl)
  have f5 := h3.frozen 5
  have l3 := h3.lt
  have h3s := h3.set 5 (.slice A1 R.length c1)
  have h2s := h2.far (p := ⟨W.heap.size + 1 + 1, 5, none⟩) (by show W.heap.size + 1 ≠ W.heap.size + 1 + 1; omega) (.slice A1 R.length c1)
  have hO3 : Off (· = W.heap.size + 1 + 1) w1 (w1.setCell ⟨W.heap.size + 1 + 1, 5, none⟩ (.slice A1 R.length c1)) := Off.one w1 ⟨W.heap.size + 1 + 1, 5, none⟩ _
  have hbw1 := HB0.out.trans (hb1.mono HB0.out.size)
  have HST : Hid (CpyS W R 0 A1 c1 R (w1.setCell ⟨W.heap.size + 1 + 1, 5, none⟩ (.slice A1 R.length c1)) ∧ CpB W ⟨bs, span, prod, epoch, seq⟩ (.slice A1 R.length c1) (w1.setCell ⟨W.heap.size + 1 + 1, 5, none⟩ (.slice A1 R.length c1))) := Lib.hid ⟨⟨own_off (own_base hown1 HB0.out.size) hO3 (own_ne hown1 h3 (by decide)), fun j y hj => by omega, fun j _ => rfl, rfl, hbw1.trans (hO3.below hbw1.size (fun k e => by have e' : k = W.heap.size + 1 + 1 := e; omega))⟩, ⟨h2s, h3s⟩⟩
  clear hc0 hown1 hb1 hbx3 hbx2 h3 h2 h3s h2s hO3 hbw1
  go_wp2_with fail
  go_loopw [15] (fun i wr => ∃ (k : Nat) (L : List RX), i = .int .i64 k ∧ k ≤ R.length ∧ CpyS W R k A1 c1 L wr ∧ L.length = R.length ∧ CpB W ⟨bs, span, prod, epoch, seq⟩ (.slice A1 R.length c1) wr) (fun i _ => R.length - (intOf i).toNat)
  case atStart => exact ⟨0, R, rfl, Nat.zero_le _, HST.out.1, rfl, HST.out.2⟩
  case round =>
    obtain ⟨k, L, rfl, hk, hS, hlen, hB⟩ := hrel
    clear HST
    by_cases hkl : k < R.length
    · obtain ⟨y, hy⟩ : ∃ y, L[k]? = some y := ⟨_, List.getElem?_eq_getElem (by omega)⟩
      have hyR : y ∈ R := List.mem_of_getElem? ((hS.rest k (Nat.le_refl _)).symm.trans hy)
      obtain ⟨gr, rfl⟩ : ∃ gr, A1 = some ⟨gr, 0, none⟩ := by
        rcases hS.row.2 with ⟨hv, h0⟩ | ⟨g, cap, cur, hv, _⟩
        · omega
        · injection hv with e1
          exact ⟨g, e1⟩
      have hc := fun i (hi : i < 7) v (hv : (recC y.1 y.2.1 y.2.2)[i]? = some v) => (hS.row.cellAt (k * 7 + i) (by omega)).trans ((recsC_at hy hi).trans hv)
      have p0 : wr.cell? ⟨gr, k * 7, none⟩ = some (.int .i64 y.1.place) := hc 0 (by omega) _ rfl
      have p1 : wr.cell? ⟨gr, k * 7 + 1, none⟩ = some (.int .i64 y.1.time) := hc 1 (by omega) _ rfl
      have p2 : wr.cell? ⟨gr, k * 7 + 2, none⟩ = some (.bool y.1.bare) := hc 2 (by omega) _ rfl
      have p3 : wr.cell? ⟨gr, k * 7 + 3, none⟩ = some (.string y.1.key) := hc 3 (by omega) _ rfl
      have p4 : wr.cell? ⟨gr, k * 7 + 4, none⟩ = some (.bool y.1.gone) := hc 4 (by omega) _ rfl
      have p5 : wr.cell? ⟨gr, k * 7 + 5, none⟩ = some (.string y.1.value) := hc 5 (by omega) _ rfl
      have p6 : wr.cell? ⟨gr, k * 7 + 6, none⟩ = some (.slice y.2.1 y.1.heads.length y.2.2) := hc 6 (by omega) _ rfl
      have hgl := (hS.row.lt gr rfl).2
      have hhl := HL.out y hyR
      have hho := HH.out y hyR
      have HY := Lib.hid hy
      have ST := Lib.hid hS
      have HCB := Lib.hid hB
      have HLN := Lib.hid hlen
      have hki : (k : Int) < (R.length : Int) := by omega
      have hk0 : (0 : Int) ≤ (k : Int) := by omega
      have hcap : R.length ≤ c1 := by
        rcases hS.row.2 with ⟨hv, h0⟩ | ⟨g, cap, cur, hv, _, _, h4, _⟩
        · omega
        · injection hv with _ _ e3
          rw [e3, ← hlen]
          exact h4
      obtain ⟨⟨pl, tm, ba, ky, gn, va, hs⟩, hA, hcc⟩ := y
      dsimp only at *
      have HX5 := Lib.hid (Box.new wr 85 #[.int .i64 pl, .int .i64 tm, .bool ba, .string ky, .bool gn, .string va, .slice hA hs.length hcc])
      have HA5 := Lib.hid (show Below wr.heap.size wr (wr.alloc (.cells #[.int .i64 pl, .int .i64 tm, .bool ba, .string ky, .bool gn, .string va, .slice hA hs.length hcc] 85)) from (Below.refl _ _).alloc (Nat.le_refl _) _)
      have HCH := Lib.hid (fun (w : World) (hb : Below wr.heap.size wr w) => clone_heads hA hs.length hcc (headCells hs) w (src_own (own_below (own_below hho hS.bel) hb) (headCells_len hs)) (headCells_len hs) (headCells_one hs) (by omega))
      clear hS hB hlen hy hyR hc hho hhl
      generalize hk7 : k * 7 = k7 at *
      go_upto_region 6 with fail
      clear p0 p1 p2 p3 p4 p5 p6
      have h5 := HX5.out
      have hq6 := (h5.cell 6).trans (show _ = some (Value.slice hA hs.length hcc) from rfl)
      have hl5 := h5.lt
      have hB5 := HCB.out.later HA5.out
      have hq5 := (hB5.three.cell 5).trans (show _ = some (Value.slice (some ⟨gr, 0, none⟩) R.length c1) from rfl)
      have hl3 := hB5.three.lt
      have BR := HA5
      have cch := fun w (hb : Below _ _ w) => HCH.out w (HA5.out.trans (hb.mono HA5.out.size))
      have RC := Lib.hid (show (recsC L)[k7 + 6]? = some (.slice hA hs.length hcc) by rw [← hk7]; exact (recsC_at HY.out (by omega)))
      refine wp_region_held_drew (S := (fun w => w.cell? ⟨W.heap.size + 1 + 1, 5, none⟩ = some (.slice (some ⟨gr, 0, none⟩) R.length c1) ∧ w.cell? ⟨wr.heap.size, 6, none⟩ = some (.slice hA hs.length hcc))) (by kernel_rfl) ⟨hq5, hq6⟩ (fun hHeld => ?_)
      refine takeW (i := 0) (v := ?v1) rfl (by kernel_rfl) (by kernel_rfl) (by kernel_rfl) (fun _ _ _ h => h) (by kernel_rfl) hHeld ?hy1 ?rest1
      case hy1 => (intro w hSw; obtain ⟨s5, s6⟩ := hSw; go_simp; (try with_reducible rfl))
      try simp only [Act.put, List.setIfInBounds_toArray, List.set_cons_zero, List.set_cons_succ]
      refine takeW (i := 1) (v := ?v2) rfl (by kernel_rfl) (by kernel_rfl) (by kernel_rfl) (fun _ _ _ h => h) (by kernel_rfl) hHeld ?hy2 ?rest2
      case hy2 => (intro w hSw; obtain ⟨s5, s6⟩ := hSw; go_simp; (try with_reducible rfl))
      try simp only [Act.put, List.setIfInBounds_toArray, List.set_cons_zero, List.set_cons_succ]
      refine takeW (i := 2) (v := ?v3) rfl (by kernel_rfl) (by kernel_rfl) (by kernel_rfl) (fun _ _ _ h => h) (by kernel_rfl) hHeld ?hy3 ?rest3
      case hy3 => (intro w hSw; obtain ⟨s5, s6⟩ := hSw; go_simp; (try with_reducible rfl))
      try simp only [Act.put, List.setIfInBounds_toArray, List.set_cons_zero, List.set_cons_succ]
      refine takeW (i := 3) (v := ?v4) rfl (by kernel_rfl) (by kernel_rfl) (by kernel_rfl) (fun _ _ _ h => h) (by kernel_rfl) hHeld ?hy4 ?rest4
      case hy4 => (intro w hSw; obtain ⟨s5, s6⟩ := hSw; go_simp; (try with_reducible rfl))
      try simp only [Act.put, List.setIfInBounds_toArray, List.set_cons_zero, List.set_cons_succ]
      refine takeW (i := 4) (v := ?v5) rfl (by kernel_rfl) (by kernel_rfl) (by kernel_rfl) (fun _ _ _ h => h) (by kernel_rfl) hHeld ?hy5 ?rest5
      case hy5 => (intro w hSw; obtain ⟨s5, s6⟩ := hSw; go_simp; (try with_reducible rfl))
      try simp only [Act.put, List.setIfInBounds_toArray, List.set_cons_zero, List.set_cons_succ]
      refine wpAnyH_ready (rs := [5]) (by kernel_rfl) (by simp) ?_
      refine consL rfl (by kernel_rfl) (fun K hK => ?_) AllReadyH.nil
      go_simp
      (with_reducible refine (cch _ ((Below.refl _ _).drew)).mono ?_)
      rintro e w2 ⟨A2, c2, rfl, hown2, hb2⟩
      have HO2 := Lib.hid (And.intro hown2 hb2)
      have hbb2 := HA5.out.trans (((Below.refl _ _).drew.trans hb2).mono HA5.out.size)
      have hS2 := ST.out.later hbb2
      refine hK.out _ _ ⟨(hb2.cell (p := ⟨W.heap.size + 1 + 1, 5, none⟩) hl3).trans hq5, (hb2.cell (p := ⟨wr.heap.size, 6, none⟩) hl5).trans hq6⟩ (fun hHeld => ?_)
      clear hK K
      try simp only [Act.put, List.setIfInBounds_toArray, List.set_cons_zero, List.set_cons_succ]
      refine takeW (i := 6) (v := ?v6) rfl (by kernel_rfl) (by kernel_rfl) (by kernel_rfl) (fun _ _ _ h => h) (by kernel_rfl) hHeld ?hy6 ?rest6
      case hy6 => (intro w hSw; obtain ⟨s5, s6⟩ := hSw; go_simp; (try with_reducible rfl))
      try simp only [Act.put, List.setIfInBounds_toArray, List.set_cons_zero, List.set_cons_succ]
      refine takeW (i := 7) (v := ?v7) rfl (by kernel_rfl) (by kernel_rfl) (by kernel_rfl) (fun _ _ _ h => h) (by kernel_rfl) hHeld ?hy7 ?rest7
      case hy7 => (intro w hSw; obtain ⟨s5, s6⟩ := hSw; go_simp; (try with_reducible rfl))
      try simp only [Act.put, List.setIfInBounds_toArray, List.set_cons_zero, List.set_cons_succ]
      refine wpAnyH_ready (rs := [8]) (by kernel_rfl) (by simp) ?_
      refine consL rfl (by kernel_rfl) (fun K hK => ?_) AllReadyH.nil
      have hc0 := hS2.row.cellAt (k7 + 6) (by have := HLN.out; omega)
      have hf0 := hS2.row.frozenAt (k7 + 6)
      have hv0 := RC.out
      rw [hv0] at hc0
      go_simp
      obtain ⟨hS3, hbx3⟩ := hS2.next HY.out (own_base hown2 (Nat.le_trans ST.out.bel.size HA5.out.size))
      dsimp only at hS3 hbx3
      rw [hk7] at hS3 hbx3
      have hB3 : CpB W ⟨bs, span, prod, epoch, seq⟩ (.slice (some ⟨gr, 0, none⟩) R.length c1) (w2.setCell ⟨gr, k7 + 6, none⟩ (.slice A2 hs.length c2)) := ⟨hbx3 _ _ (HCB.out.later hbb2).two, hbx3 _ _ (HCB.out.later hbb2).three⟩
      refine hK.out _ _ ⟨(hB3.three.cell 5).trans rfl, (World.cell?_setCell_far _ _ _ _ (by show gr ≠ wr.heap.size; omega)).trans ((hb2.cell (p := ⟨wr.heap.size, 6, none⟩) hl5).trans hq6)⟩ (fun hHeld => ?_)
      clear hK K
      try simp only [Act.put, List.setIfInBounds_toArray, List.set_cons_zero, List.set_cons_succ]
      refine wpAnyH_done (by kernel_rfl) ?_ _
      have HS3 := Lib.hid (And.intro hS3 hB3)
      clear hHeld hS3 hB3 hbx3 hS2 hbb2 hb2 hown2 hc0 hf0 hv0 cch hq5 hq6 hl3 hl5 h5 hB5
      go_wp2_with fail
      go_roundw
      case rel => exact ⟨k + 1, L.set k (⟨pl, tm, ba, ky, gn, va, hs⟩, A2, c2), by go_num, hkl, HS3.out.1, by rw [List.length_set]; exact HLN.out, HS3.out.2⟩
      case measure => simp [intOf]; omega
    · have hki : ¬ (k : Int) < (R.length : Int) := by omega
      have hkk : k = R.length := by omega
      have q0 := (hB.three.cell 0).trans (show _ = some (Value.int .i64 bs) from rfl)
      have q1 := (hB.three.cell 1).trans (show _ = some (Value.int .i64 span) from rfl)
      have q2 := (hB.three.cell 2).trans (show _ = some (Value.int .i64 prod) from rfl)
      have q3 := (hB.three.cell 3).trans (show _ = some (Value.int .i64 epoch) from rfl)
      have q4 := (hB.three.cell 4).trans (show _ = some (Value.int .i64 seq) from rfl)
      have q5 := (hB.three.cell 5).trans (show _ = some (Value.slice A1 R.length c1) from rfl)
      have z0 := (hB.two.cell 0).trans (show _ = some (Value.int .i64 0) from rfl)
      have z1 := (hB.two.cell 1).trans (show _ = some (Value.int .i64 0) from rfl)
      have z2 := (hB.two.cell 2).trans (show _ = some (Value.int .i64 0) from rfl)
      have z3 := (hB.two.cell 3).trans (show _ = some (Value.int .i64 0) from rfl)
      have z4 := (hB.two.cell 4).trans (show _ = some (Value.int .i64 0) from rfl)
      have z5 := (hB.two.cell 5).trans (show _ = some (Value.slice none 0 0) from rfl)
      have f0 := hB.two.frozen 0
      have f1 := hB.two.frozen 1
      have f2 := hB.two.frozen 2
      have f3 := hB.two.frozen 3
      have f4 := hB.two.frozen 4
      have f5 := hB.two.frozen 5
      have hl2 := hB.two.lt
      have hl3 := hB.three.lt
      have HS := Lib.hid (And.intro hS hB)
      have HLN := Lib.hid hlen
      have HK := Lib.hid hkk
      clear hS hB hlen hkk
      go_wp2_with fail
      have hO := bset_off wr (W.heap.size + 1) (.int .i64 bs) (.int .i64 span) (.int .i64 prod) (.int .i64 epoch) (.int .i64 seq) (.slice A1 R.length c1)
      refine bodyPost_ret (v := .agg #[.int .i64 bs, .int .i64 span, .int .i64 prod, .int .i64 epoch, .int .i64 seq, .slice A1 R.length c1]) (cpy_result (W.heap.size + 1) (bset_box HS.out.2.two _ _ _ _ _ _) _ rfl) rfl ⟨L, A1, c1, HS.out.1.same, by rw [HLN.out]; rfl, ⟨own_off HS.out.1.row hO (own_ne HS.out.1.row HS.out.2.two (by decide)), fun y hy => ?_⟩, below_off HS.out.1.bel hO (Nat.le_succ _)⟩
      obtain ⟨j, hj⟩ := List.mem_iff_getElem?.1 hy
      have hh := HS.out.1.heads j y (by have := (List.getElem?_eq_some_iff.1 hj).1; have := HLN.out; have := HK.out; omega) hj
      exact own_off hh hO (own_ne hh HS.out.2.two (by decide))
end Go.Proofs.YtjnphajkoopkgaaGreatDoor
/- segment: Read: by a contract. No condition but that there are not too many. -/
namespace Go.Proofs.YtjnphajkoopkgaaGreatDoor
open Go.RowKit
set_option linter.unusedVariables false
def endQ (q : BR) : Int := q.1.base + q.1.span
/-- What is read from a place on, in so many bytes. -/
def readS (from_ most : Int) : Nat → Bool → List BR → List BR
  | _, _, [] => []
  | n, has, q :: l => if endQ q ≤ from_ then readS from_ most n has l else if has = true ∧ most < ((n + (encT q).size : Nat) : Int) then [] else q :: readS from_ most (n + (encT q).size) true l
def readN (from_ most : Int) (N : List BR) : List BR := readS from_ most 0 false N
theorem readS_skip {from_ most : Int} {n : Nat} {has : Bool} : ∀ {P S : List BR}, (∀ q ∈ P, endQ q ≤ from_) → readS from_ most n has (P ++ S) = readS from_ most n has S
  | [], _, _ => rfl
  | q :: P, S, h => by
    rw [List.cons_append, readS, if_pos (h q (List.mem_cons_self ..))]
    exact readS_skip (fun x hx => h x (List.mem_cons_of_mem _ hx))
/-- A base is not below the end of a batch ahead of it. -/
theorem chain_le {s : SG} (h : SgOk s) : ∀ {i j : Nat} {x y : PX}, i < j → s.L[i]? = some x → s.L[j]? = some y → x.end_ ≤ y.b.base := by
  intro i j
  induction j with
  | zero => intro x y hij; omega
  | succ j ih =>
    intro x y hij hx hy
    have hc := h.chain (j + 1) y hy
    have hj1 := (List.getElem?_eq_some_iff.1 hy).1
    obtain ⟨z, hz⟩ : ∃ z, s.L[j]? = some z := ⟨_, List.getElem?_eq_getElem (by omega)⟩
    have he : endP s.base (s.L.take (j + 1)) = z.end_ := by rw [List.take_add_one, hz]; exact endP_snoc _ _ _
    rw [he] at hc
    by_cases hij2 : i = j
    · subst hij2
      rw [hx] at hz
      injection hz with hz
      subst hz
      exact hc
    · have h1 := ih (by omega) hx hz
      have h2 := (bat_num (h.bats z (List.mem_of_getElem? hz))).2
      unfold PX.end_ at hc h1 ⊢
      omega
theorem pos_lt {s : SG} (h : SgOk s) {i j : Nat} {x y : PX} (hx : s.L[i]? = some x) (hy : s.L[j]? = some y) (hp : x.pos < y.pos) : i < j := by
  rcases Nat.lt_or_ge i j with hlt | hge
  · exact hlt
  · have h1 := (h.pos i x hx).1
    have h2 := (h.pos j y hy).1
    have h3 := lenP_take_le s.L hge
    omega
theorem ahead_of {L : List Ix.En} {Q : Ix.En → Bool} : Ix.aheadG L Q = 0 ∨ ∃ e ∈ L, Q e = false ∧ e.2.1 = Ix.aheadG L Q := by
  unfold Ix.aheadG
  cases hl : (L.takeWhile fun e => !Q e).getLast? with
  | none => exact .inl rfl
  | some e =>
    have hm := List.mem_of_getLast? hl
    have h1 : (!Q e) = true := List.all_eq_true.1 (List.all_takeWhile (l := L) (p := fun e => !Q e)) e hm
    exact .inr ⟨e, (List.takeWhile_sublist _).subset hm, by simpa using h1, rfl⟩
/-- What stands ahead of where the index says ends ahead of the place. -/
theorem find_skip {s : SG} (h : SgOk s) (from_ : Int) {k : Nat} {x : PX} (hx : s.L[k]? = some x) (hp : posB s (Ix.aheadG s.x.L (Ix.qF from_)) k = false) : x.end_ ≤ from_ := by
  unfold posB at hp
  rw [hx] at hp
  have hlt : x.pos < Ix.aheadG s.x.L (Ix.qF from_) := by
    have := of_decide_eq_false hp
    omega
  have hx0 : 0 ≤ x.pos := by rw [(h.pos k x hx).1]; omega
  rcases ahead_of (L := s.x.L) (Q := Ix.qF from_) with h0 | ⟨e, he, hq, hv⟩
  · omega
  · obtain ⟨j, y, hy, e1, e2, _⟩ := h.ix.of e he
    have hle : e.1 ≤ from_ := by unfold Ix.qF at hq; have := of_decide_eq_false hq; omega
    have hkj := pos_lt h hx hy (by omega)
    have := chain_le h hkj hx hy
    omega
theorem read_since {s : SG} (h : SgOk s) (from_ most : Int) {r : Nat} (hr : ∀ k, k < r → posB s (Ix.aheadG s.x.L (Ix.qF from_)) k = false) : readN from_ most (s.L.map PX.told) = readN from_ most ((s.L.drop r).map PX.told) := by
  unfold readN
  conv => lhs; rw [← List.take_append_drop r s.L, List.map_append]
  refine readS_skip (fun q hq => ?_)
  obtain ⟨x, hx, rfl⟩ := List.mem_map.1 hq
  obtain ⟨k, hk⟩ := List.mem_iff_getElem?.1 hx
  have hkr : k < r := by have := (List.getElem?_eq_some_iff.1 hk).1; rw [List.length_take] at this; omega
  rw [List.getElem?_take_of_lt hkr] at hk
  exact find_skip h from_ hk (hr k hkr)
/-- One batch more in a list of the call's own. -/
theorem BtsR.appS {w : World} {base : Nat} {B : Option Addr} {d : Nat} {M : List BX} {y : BX} (h : BtsR w base (.slice B M.length d) M) (hb : base ≤ w.heap.size) (hy : RowR w base (.slice y.2.2.1 y.2.1.length y.2.2.2) y.2.1) (hl : M.length ≤ 1000000) :
    ∃ (A' : Option Addr) (c' : Nat) (w' : World), (Builtin.append_ #[51, 51] 51 #[.slice B M.length d, .slice (some ⟨w.heap.size, 0, none⟩) 1 1]).run Tryz.prog (w.alloc (.cells (bnC y.1 (.slice y.2.2.1 y.2.1.length y.2.2.2)) 44)) = .ok (.slice A' (M.length + 1) c') w' ∧
      BtsR w' base (.slice A' (M.length + 1) c') (M ++ [y]) ∧ Below base w w' ∧ ∀ (b : Nat) (t : TypeId) (cs : Array Value), t ≠ 44 → Box w b t cs → Box w' b t cs := by
  have hA : Below w.heap.size w (w.alloc (.cells (bnC y.1 (.slice y.2.2.1 y.2.1.length y.2.2.2)) 44)) := (Below.refl _ _).alloc (Nat.le_refl _) _
  have h' := h.later hA
  have hy' := hy.later hA
  have hbn := Box.new w 44 (bnC y.1 (.slice y.2.2.1 y.2.1.length y.2.2.2))
  have hsz : base ≤ (w.alloc (.cells (bnC y.1 (.slice y.2.2.1 y.2.1.length y.2.2.2)) 44)).heap.size := Nat.le_trans hb hA.size
  have hbx : ∀ (b : Nat) (t : TypeId) (cs : Array Value), Box w b t cs → Box (w.alloc (.cells (bnC y.1 (.slice y.2.2.1 y.2.1.length y.2.2.2)) 44)) b t cs := fun b t cs hx => hx.later hA
  generalize hw9 : (w.alloc (.cells (bnC y.1 (.slice y.2.2.1 y.2.1.length y.2.2.2)) 44)) = w9 at *
  obtain ⟨A', c', w', r1, o1, g1⟩ := catZ (t := 51) (sz := 6) (u := .slice (some ⟨w.heap.size, 0, none⟩) 1 1) (m := 1) (ys := (bnC y.1 (.slice y.2.2.1 y.2.1.length y.2.2.2)).toList) (by decide) Tryz.underlying51 batInfo rfl (by decide) h'.row (.inr ⟨_, _, rfl, rfl, news_at hbn⟩) (bat_one y.1 y.2.2.1 y.2.1.length y.2.2.2) hsz (by omega)
  refine ⟨A', c', w', r1, h'.grow hy' o1 g1, (hA.mono hb).grown g1 hsz (fun j hj => (h'.row.lt j hj).1), fun b t cs ht hx => (hbx b t cs hx).kept_by g1 ?_⟩
  cases ho : (Value.slice B M.length d).ownBlock with
  | none => exact .inl rfl
  | some j => exact .inr (fun e => own_ne h'.row (hbx b t cs hx) ht j ho (by injection e))
def GotRd (W : World) (N : List BR) (e : Ending) (w' : World) : Prop := ∃ (M : List BX) (A : Option Addr) (c : Nat), M.map BX.told = N ∧ e = .returned (.slice A M.length c) ∧ BtsR w' W.heap.size (.slice A M.length c) M ∧ Below W.heap.size W w'
/-- What is to come of a reading under way. -/
theorem readS_step {from_ most : Int} {n : Nat} {has : Bool} {L : List BR} {k : Nat} {q : BR} (hq : L[k]? = some q) : readS from_ most n has (L.drop k) = if endQ q ≤ from_ then readS from_ most n has (L.drop (k + 1)) else if has = true ∧ most < ((n + (encT q).size : Nat) : Int) then [] else q :: readS from_ most (n + (encT q).size) true (L.drop (k + 1)) := by
  obtain ⟨hk, he⟩ := List.getElem?_eq_some_iff.1 hq
  rw [List.drop_eq_getElem_cons hk, he, readS]
set_option maxHeartbeats 16000000 in
set_option maxRecDepth 100000 in
theorem sread_c (W w : World) (p q : Nat) (a : Dk.Ab) (s : SG) (from_ most : Int) (h : SD W p q a s w) (hl : s.L.length ≤ 600000) :
    Calls Tryz.prog 21 #[sp q, .int .i64 from_, .int .i64 most] w (GotRd w (readN from_ most (s.L.map PX.told))) := by
  obtain ⟨y0, y1, y2, y3, y4⟩ := h.sg.cells
  have cf := Ix.find_c s.x s.iA s.iC W.heap.size s.ip from_ w h.sg.ix (by have := h.ok.ix.len; omega) h.ok.ix.srt
  have HD := Lib.hid h
  unfold sp
  clear h
  go_enter Tryz.func21, Tryz.ntmps21
  go_wp2_with fail
  (with_reducible refine cf.mono ?_)
  rintro e w1 ⟨rfl, hb1⟩
  have HB1 := Lib.hid hb1
  have csn := since_c s W.heap.size q (Ix.aheadG s.x.L (Ix.qF from_)) w1 (HD.out.sg.later hb1) HD.out.ok (by omega)
  unfold sp at csn
  have HAG := Lib.hid (fun r hr => read_since HD.out.ok from_ most (r := r) hr)
  clear cf hb1 y0 y1 y2 y3 y4
  generalize Ix.aheadG s.x.L (Ix.qF from_) = ag at *
  go_wp2_with fail
  (with_reducible refine csn.mono ?_)
  rintro e w2 ⟨r, A, d, rfl, hr, hlo, hhi, hA, hb2⟩
  have hrs := HAG.out r hlo
  have HRD := Lib.hid hrs
  have HBA := Lib.hid hA
  have HB2 := Lib.hid (HB1.out.trans (hb2.mono HB1.out.size))
  have HRS : Hid (readN from_ most ((s.L.drop r).map PX.told) = readS from_ most 0 false (((s.L.drop r).map PX.told).drop 0)) := Lib.hid rfl
  have hT5 : s.L.length - r ≤ 600000 := by omega
  clear csn HAG hlo hhi hA hb2 hrs
  generalize hNN : s.L.length - r = nn at *
  have HNN := Lib.hid hNN
  have hdl : ((s.L.drop r).map PX.told).length = nn := by rw [List.length_map, List.length_drop]; exact hNN
  have HDL := Lib.hid hdl
  generalize hTT : readN from_ most ((s.L.drop r).map PX.told) = TT at *
  clear hNN hdl hTT
  go_wp2_with fail
  go_loopw [7, 8, 22] (fun l b i wr => ∃ (k n : Nat) (M : List BX) (B : Option Addr) (c : Nat), l = .slice B M.length c ∧ b = .int .i64 n ∧ i = .int .i64 k ∧ k ≤ nn ∧ M.length ≤ k ∧ n ≤ 60008 * k ∧ TT = M.map BX.told ++ readS from_ most n (decide (0 < M.length)) (((s.L.drop r).map PX.told).drop k) ∧ BtsR wr w.heap.size (.slice B M.length c) M ∧ Below w.heap.size w wr) (fun _ _ i _ => nn - (intOf i).toNat)
  case atStart => exact ⟨0, 0, [], none, 0, rfl, rfl, rfl, Nat.zero_le _, Nat.zero_le _, Nat.zero_le _, HRS.out, BtsR.nil _ _, HB2.out⟩
  case round =>
    obtain ⟨k, n, M, B, c, rfl, rfl, rfl, hk, hmk, hn, ht, hB, hbw⟩ := hrel
    by_cases hkl : k < nn
    · obtain ⟨x, hx⟩ : ∃ x, s.L[r + k]? = some x := ⟨_, List.getElem?_eq_getElem (by have := HNN.out; omega)⟩
      have hsd := HD.out.later hbw
      obtain ⟨b, hBe, hbl, hd8, z0, z1, z2, z3, z4, z5, z6, z7⟩ := hsd.sg.place hx
      obtain ⟨⟨b', hB', rfl⟩, hnd⟩ := HBA.out (by have := HNN.out; omega)
      obtain rfl : b' = b := by rw [hBe] at hB'; injection hB' with hB'; injection hB' with e; exact e.symm
      have hadr : (r + k) * 8 = r * 8 + k * 8 := by rw [Nat.add_mul]
      rw [hadr] at z0 z1 z2 z3 z4 z5 z6 z7
      have hxm := List.mem_of_getElem? hx
      have hbat := HD.out.ok.bats x hxm
      obtain ⟨hr50, hrok⟩ := bat_recs hbat
      have hsz : x.size = ((encB x.b x.R).size : Int) := (HD.out.ok.pos _ _ hx).2
      have hez := (encB_size hbat).2
      have hq : ((s.L.drop r).map PX.told)[k]? = some x.told := by rw [List.getElem?_map, List.getElem?_drop, hx]; rfl
      have HST := Lib.hid (fun n has => readS_step (from_ := from_) (most := most) (n := n) (has := has) hq)
      have hqz : (encT x.told).size = (encB x.b x.R).size := by rw [encT_told]
      have HQZ := Lib.hid hqz
      have cend := fun v => pend_c x v (HD.out.ok.px hl x hxm)
      have ccp := fun v (hv : Below wr.heap.size wr v) => copy_c x W.heap.size v ((hsd.sg.recs x hxm).later hv) (by omega) (fun y hy => by have := (okRec_parts (hrok y hy)).2.2.1; omega)
      have HT := Lib.hid ht
      have HB := Lib.hid (And.intro hB hbw)
      have hki : (k : Int) < (nn : Int) := by omega
      have hk0 : (0 : Int) ≤ (k : Int) := by omega
      have HND : Hid (nn ≤ d) := Lib.hid (by have := HNN.out; omega)
      have hnd' := HND.out
      clear hsd hx hxm hbat hr50 hrok hq hqz ht hB hbw hadr hBe hB' hnd hd8
      have hendE : x.end_ = endQ x.told := rfl
      generalize hEN : x.end_ = en at *
      generalize hEZ : (encB x.b x.R).size = ez at *
      generalize hTD : x.told = td at *
      obtain ⟨⟨base, span, prod, epoch, seq⟩, R, RA, rc, pos, size⟩ := x
      unfold plcV CopiedB bnC at *
      dsimp only at *
      subst hsz
      generalize hr8 : r * 8 = r8 at *
      generalize hk8 : k * 8 = k8 at *
      have HEN := Lib.hid hendE
      have hA1 : Below wr.heap.size wr (wr.alloc (.cells #[.int .i64 base, .int .i64 span, .int .i64 prod, .int .i64 epoch, .int .i64 seq, .slice RA R.length rc, .int .i64 pos, .int .i64 (ez : Int)] 91)) := (Below.refl _ _).alloc (Nat.le_refl _) _
      have HX1 := Lib.hid (Box.new wr 91 #[.int .i64 base, .int .i64 span, .int .i64 prod, .int .i64 epoch, .int .i64 seq, .slice RA R.length rc, .int .i64 pos, .int .i64 (ez : Int)])
      have HA1 := Lib.hid hA1
      have hn6 : n ≤ 36006000000 := by omega
      clear hA1 hendE
      by_cases hle : en ≤ from_
      · have HLE := Lib.hid hle
        go_wp2_with fail
        (with_reducible refine (cend _).mono ?_)
        rintro e w3 ⟨rfl, hb3⟩
        have hbw3 := HA1.out.trans (hb3.mono HA1.out.size)
        have HF := Lib.hid (And.intro (HB.out.1.later hbw3) (HB.out.2.trans (hbw3.mono HB.out.2.size)))
        clear hb3 hbw3 cend ccp z0 z1 z2 z3 z4 z5 z6 z7 hbl
        go_wp2_with fail
        go_roundw
        case rel => exact ⟨k + 1, n, M, B, c, rfl, rfl, by go_num, hkl, by omega, by omega, by rw [HT.out, HST.out, if_pos (by rw [← HEN.out]; exact HLE.out)], HF.out.1, HF.out.2⟩
        case measure => simp [intOf]; omega
      · have HLE := Lib.hid hle
        have hnle : ¬ en ≤ from_ := hle
        by_cases hbr : 0 < M.length ∧ most < (n : Int) + (ez : Int)
        · obtain ⟨hb1, hb2⟩ := hbr
          have HBR := Lib.hid (And.intro hb1 hb2)
          have hb1' : (0 : Int) < (M.length : Int) := by omega
          go_wp2_with fail
          (with_reducible refine (cend _).mono ?_)
          rintro e w3 ⟨rfl, hb3⟩
          have hbw3 := HA1.out.trans (hb3.mono HA1.out.size)
          have hx3 := HX1.out.later hb3
          have x7 := (hx3.cell 7).trans (show _ = some (Value.int .i64 (ez : Int)) from rfl)
          have x7l := hx3.lt
          have HF := Lib.hid (And.intro (HB.out.1.later hbw3) (HB.out.2.trans (hbw3.mono HB.out.2.size)))
          clear hb3 hbw3 cend ccp z0 z1 z2 z3 z4 z5 z6 z7 hbl hx3
          go_wp2_with fail
          go_ret
          rw [HRD.out]
          refine ⟨M, B, c, ?_, rfl, HF.out.1, HF.out.2⟩
          rw [HT.out, HST.out, if_neg (by rw [← HEN.out]; have := HLE.out; omega), if_pos ⟨by rw [decide_eq_true HBR.out.1], by rw [HQZ.out]; have := HBR.out.2; omega⟩, List.append_nil]
        · have HBR := Lib.hid hbr
          have hcs : (¬ (0 : Int) < (M.length : Int)) ∨ ((0 : Int) < (M.length : Int) ∧ ¬ most < (n : Int) + (ez : Int)) := by omega
          have ccp1 := fun v hv => ccp v hv
          clear ccp hbr
          rcases hcs with hb1' | ⟨hb1', hb2'⟩
          all_goals
            go_wp2_with fail
            (with_reducible refine (cend _).mono ?_)
            rintro e w3 ⟨rfl, hb3⟩
            have hbw3 := HA1.out.trans (hb3.mono HA1.out.size)
            have HW3 := Lib.hid hbw3
            have hx3 := HX1.out.later hb3
            have x0 := (hx3.cell 0).trans (show _ = some (Value.int .i64 base) from rfl)
            have x1 := (hx3.cell 1).trans (show _ = some (Value.int .i64 span) from rfl)
            have x2 := (hx3.cell 2).trans (show _ = some (Value.int .i64 prod) from rfl)
            have x3 := (hx3.cell 3).trans (show _ = some (Value.int .i64 epoch) from rfl)
            have x4 := (hx3.cell 4).trans (show _ = some (Value.int .i64 seq) from rfl)
            have x5 := (hx3.cell 5).trans (show _ = some (Value.slice RA R.length rc) from rfl)
            have x6 := (hx3.cell 6).trans (show _ = some (Value.int .i64 pos) from rfl)
            have x7 := (hx3.cell 7).trans (show _ = some (Value.int .i64 (ez : Int)) from rfl)
            have x7l := hx3.lt
            have cc3 := ccp1 w3 hbw3
            clear hb3 hbw3 cend ccp1 z0 z1 z2 z3 z4 z5 z6 z7 hbl hx3
            go_wp2_with fail
            (with_reducible refine cc3.mono ?_)
            rintro e w4 ⟨M4, A4, c4, hM4, rfl, hr4, hb4⟩
            have hbw4 := HW3.out.trans (hb4.mono HW3.out.size)
            have hw24 := HB.out.2.trans (hbw4.mono HB.out.2.size)
            obtain ⟨A5, c5, w5, r5, hB5, hb5, _⟩ := (HB.out.1.later hbw4).appS hw24.size (y := (⟨base, span, prod, epoch, seq⟩, M4, A4, c4)) (hr4.base (Nat.le_trans HB.out.2.size HW3.out.size)) (by omega)
            have HF := Lib.hid (And.intro hB5 (And.intro (hw24.trans hb5) hM4))
            unfold bnC at r5
            dsimp only at r5
            clear hr4 hb4 hbw4 hw24 hB5 hb5 hM4 cc3 x0 x1 x2 x3 x4 x5 x6 x7
            go_wp2_with (at_builtin; refine wpList_append_run rfl (.tmp 42) (.tmp 45) 51 rfl _ _ _ rfl rfl r5 ?_)
            refine ⟨⟨k + 1, n + ez, M ++ [(⟨base, span, prod, epoch, seq⟩, M4, A4, c4)], A5, c5, by rw [List.length_append]; rfl, by go_num, by go_num, hkl, by rw [List.length_append]; show M.length + 1 ≤ _; omega, by omega, ?_, by rw [List.length_append]; exact HF.out.1, HF.out.2.1⟩, by simp [intOf]; omega⟩
            rw [HT.out, HST.out, if_neg (by rw [← HEN.out]; have := HLE.out; omega), if_neg (fun h => HBR.out ⟨of_decide_eq_true h.1, by have := h.2; rw [HQZ.out] at this; omega⟩), HQZ.out, List.map_append, List.append_assoc, decide_eq_true (by rw [List.length_append]; show 0 < M.length + 1; omega)]
            congr 1
            show _ = [((⟨base, span, prod, epoch, seq⟩ : BN), M4.map (·.1))] ++ _
            rw [HF.out.2.2]
            rw [show td = ((⟨base, span, prod, epoch, seq⟩ : BN), R.map (·.1)) from hTD.symm]
            rfl
    · have hki : ¬ (k : Int) < (nn : Int) := by omega
      have hdr : ((s.L.drop r).map PX.told).drop k = [] := List.drop_of_length_le (by rw [HDL.out]; omega)
      have hf : M.map BX.told = TT := by rw [ht, hdr]; unfold readS; rw [List.append_nil]
      have HF := Lib.hid (And.intro hf (And.intro hB hbw))
      clear ht hB hbw hdr hf
      go_wp2_with fail
      go_ret
      rw [HRD.out]
      exact ⟨M, B, c, HF.out.1, rfl, HF.out.2.1, HF.out.2.2⟩
end Go.Proofs.YtjnphajkoopkgaaGreatDoor
/- segment: After: by a contract. No condition but that there are not too many. -/
namespace Go.Proofs.YtjnphajkoopkgaaGreatDoor
open Go.RowKit
set_option linter.unusedVariables false
/-- The first batch with a record of a time, or of a later one. -/
def aftN (t : Int) : List BR → Int × Bool
  | [] => (0, false)
  | q :: l => if anyT q.2 t = true then (q.1.base, true) else aftN t l
def aftV (t : Int) (N : List BR) : Value := .tuple #[.int .i64 (aftN t N).1, .bool (aftN t N).2]
theorem aftN_skip {t : Int} : ∀ {P S : List BR}, (∀ q ∈ P, anyT q.2 t = false) → aftN t (P ++ S) = aftN t S
  | [], _, _ => rfl
  | x :: P, S, h => by
    show (if anyT x.2 t = true then _ else _) = _
    rw [if_neg (by rw [h x List.mem_cons_self]; decide)]
    exact aftN_skip fun q hq => h q (List.mem_cons_of_mem _ hq)
theorem fold_max {α : Type} (f : α → Int) : ∀ (l : List α) (a : Int), a ≤ l.foldl (fun t r => max t (f r)) a ∧ ∀ r ∈ l, f r ≤ l.foldl (fun t r => max t (f r)) a
  | [], a => ⟨Int.le_refl _, fun r h => by cases h⟩
  | x :: l, a => by
    obtain ⟨h1, h2⟩ := fold_max f l (max a (f x))
    refine ⟨Int.le_trans (by omega) h1, fun r hr => ?_⟩
    rcases List.mem_cons.1 hr with rfl | hr
    · exact Int.le_trans (by omega) h1
    · exact h2 r hr
theorem late_not {R : List Rec} {t : Int} (h : lateG R < t) : anyT R t = false := by
  cases ha : anyT R t with
  | false => rfl
  | true =>
    obtain ⟨r, hr, hd⟩ := List.any_eq_true.1 ha
    have h1 := (fold_max (fun r : Rec => r.time) R 0).2 r hr
    have h2 : t ≤ r.time := of_decide_eq_true hd
    unfold lateG at h
    omega
theorem seek_skip {s : SG} (h : SgOk s) (t : Int) {k : Nat} {x : PX} (hx : s.L[k]? = some x) (hp : posB s (Ix.aheadG s.x.L (Ix.qS t)) k = false) : anyT x.told.2 t = false := by
  unfold posB at hp
  rw [hx] at hp
  have hlt : x.pos < Ix.aheadG s.x.L (Ix.qS t) := by
    have := of_decide_eq_false hp
    omega
  have hx0 : 0 ≤ x.pos := by rw [(h.pos k x hx).1]; omega
  rcases ahead_of (L := s.x.L) (Q := Ix.qS t) with h0 | ⟨e, he, hq, hv⟩
  · omega
  · obtain ⟨j, y, hy, e1, e2, e3⟩ := h.ix.of e he
    have hle : e.2.2 < t := by unfold Ix.qS at hq; have := of_decide_eq_false hq; omega
    have hkj := pos_lt h hx hy (by omega)
    have hm : x ∈ s.L.take (j + 1) := List.mem_of_getElem? (i := k) (by rw [List.getElem?_take_of_lt (by omega)]; exact hx)
    have h1 := (fold_max (fun x : PX => lateG (x.R.map (·.1))) (s.L.take (j + 1)) 0).2 x hm
    refine late_not (R := x.told.2) ?_
    rw [e3] at hle
    unfold lateP at hle
    exact Int.lt_of_le_of_lt h1 hle
theorem aft_since {s : SG} (h : SgOk s) (t : Int) {r : Nat} (hr : ∀ k, k < r → posB s (Ix.aheadG s.x.L (Ix.qS t)) k = false) : aftN t (s.L.map PX.told) = aftN t ((s.L.drop r).map PX.told) := by
  conv => lhs; rw [← List.take_append_drop r s.L, List.map_append]
  refine aftN_skip (fun q hq => ?_)
  obtain ⟨x, hx, rfl⟩ := List.mem_map.1 hq
  obtain ⟨k, hk⟩ := List.mem_iff_getElem?.1 hx
  have hkr : k < r := by have := (List.getElem?_eq_some_iff.1 hk).1; rw [List.length_take] at this; omega
  rw [List.getElem?_take_of_lt hkr] at hk
  exact seek_skip h t hk (hr k hkr)
theorem aftN_step {t : Int} {L : List BR} {k : Nat} {q : BR} (hq : L[k]? = some q) : aftN t (L.drop k) = if anyT q.2 t = true then (q.1.base, true) else aftN t (L.drop (k + 1)) := by
  obtain ⟨hk, he⟩ := List.getElem?_eq_some_iff.1 hq
  rw [List.drop_eq_getElem_cons hk, he]
  rfl
set_option maxHeartbeats 16000000 in
set_option maxRecDepth 100000 in
theorem after_c (W w : World) (p q : Nat) (a : Dk.Ab) (s : SG) (t : Int) (h : SD W p q a s w) (hl : s.L.length ≤ 600000) :
    Calls Tryz.prog 18 #[sp q, .int .i64 t] w (Good w (aftV t (s.L.map PX.told))) := by
  obtain ⟨y0, y1, y2, y3, y4⟩ := h.sg.cells
  have cf := Ix.seek_c s.x s.iA s.iC W.heap.size s.ip t w h.sg.ix (by have := h.ok.ix.len; omega) h.ok.ix.srt
  have HD := Lib.hid h
  unfold sp
  clear h
  go_enter Tryz.func18, Tryz.ntmps18
  go_wp2_with fail
  (with_reducible refine cf.mono ?_)
  rintro e w1 ⟨rfl, hb1⟩
  have HB1 := Lib.hid hb1
  have csn := since_c s W.heap.size q (Ix.aheadG s.x.L (Ix.qS t)) w1 (HD.out.sg.later hb1) HD.out.ok (by omega)
  unfold sp at csn
  have HAG := Lib.hid (fun r hr => aft_since HD.out.ok t (r := r) hr)
  clear cf hb1 y0 y1 y2 y3 y4
  generalize Ix.aheadG s.x.L (Ix.qS t) = ag at *
  go_wp2_with fail
  (with_reducible refine csn.mono ?_)
  rintro e w2 ⟨r, A, d, rfl, hr, hlo, hhi, hA, hb2⟩
  have HRD := Lib.hid (HAG.out r hlo)
  have HBA := Lib.hid hA
  have HB2 := Lib.hid (HB1.out.trans (hb2.mono HB1.out.size))
  have hT5 : s.L.length - r ≤ 600000 := by omega
  clear csn HAG hlo hhi hA hb2
  generalize hNN : s.L.length - r = nn at *
  have HNN := Lib.hid hNN
  have HDL : Hid (((s.L.drop r).map PX.told).length = nn) := Lib.hid (by rw [List.length_map, List.length_drop]; exact hNN)
  clear hNN
  go_wp2_with fail
  go_loopw [19] (fun i wr => ∃ (k : Nat), i = .int .i64 k ∧ k ≤ nn ∧ aftN t ((s.L.drop r).map PX.told) = aftN t (((s.L.drop r).map PX.told).drop k) ∧ Below w.heap.size w wr) (fun i _ => nn - (intOf i).toNat)
  case atStart => exact ⟨0, rfl, Nat.zero_le _, rfl, HB2.out⟩
  case round =>
    obtain ⟨k, rfl, hk, ht, hbw⟩ := hrel
    by_cases hkl : k < nn
    · obtain ⟨x, hx⟩ : ∃ x, s.L[r + k]? = some x := ⟨_, List.getElem?_eq_getElem (by have := HNN.out; omega)⟩
      have hsd := HD.out.later hbw
      obtain ⟨b, hBe, hbl, hd8, z0, z1, z2, z3, z4, z5, z6, z7⟩ := hsd.sg.place hx
      obtain ⟨⟨b', hB', rfl⟩, hnd⟩ := HBA.out (by have := HNN.out; omega)
      obtain rfl : b' = b := by rw [hBe] at hB'; injection hB' with hB'; injection hB' with e; exact e.symm
      have hadr : (r + k) * 8 = r * 8 + k * 8 := by rw [Nat.add_mul]
      rw [hadr] at z0 z1 z2 z3 z4 z5 z6 z7
      have hxm := List.mem_of_getElem? hx
      have hbat := HD.out.ok.bats x hxm
      obtain ⟨hr50, hrok⟩ := bat_recs hbat
      have hq : ((s.L.drop r).map PX.told)[k]? = some x.told := by rw [List.getElem?_map, List.getElem?_drop, hx]; rfl
      have HST := Lib.hid (ht.trans (aftN_step (t := t) hq))
      have crc := fun v (hv : Below wr.heap.size wr v) => reach_c x t v (((hsd.sg.recs x hxm).later hv).rsin hrok) (by omega)
      have hki : (k : Int) < (nn : Int) := by omega
      have hk0 : (0 : Int) ≤ (k : Int) := by omega
      have HND : Hid (nn ≤ d) := Lib.hid (by have := HNN.out; omega)
      have hnd' := HND.out
      have HW := Lib.hid hbw
      clear hsd hx hxm hbat hr50 hrok hq ht hbw hadr hBe hB' hnd hd8
      obtain ⟨⟨base, span, prod, epoch, seq⟩, R, RA, rc, pos, size⟩ := x
      have HST2 : Hid (aftN t ((s.L.drop r).map PX.told) = if anyT (R.map (·.1)) t = true then (base, true) else aftN t (((s.L.drop r).map PX.told).drop (k + 1))) := HST
      unfold plcV at *
      dsimp only at *
      generalize hr8 : r * 8 = r8 at *
      generalize hk8 : k * 8 = k8 at *
      have hA1 : Below wr.heap.size wr (wr.alloc (.cells #[.int .i64 base, .int .i64 span, .int .i64 prod, .int .i64 epoch, .int .i64 seq, .slice RA R.length rc, .int .i64 pos, .int .i64 size] 91)) := (Below.refl _ _).alloc (Nat.le_refl _) _
      have HX1 := Lib.hid (Box.new wr 91 #[.int .i64 base, .int .i64 span, .int .i64 prod, .int .i64 epoch, .int .i64 seq, .slice RA R.length rc, .int .i64 pos, .int .i64 size])
      have HA1 := Lib.hid hA1
      have cr := crc _ hA1
      clear hA1 crc HST
      cases hany : anyT (R.map (·.1)) t with
      | true =>
        rw [hany] at cr
        have HAN := Lib.hid hany
        clear hany
        go_wp2_with fail
        (with_reducible refine cr.mono ?_)
        rintro e w3 ⟨rfl, hb3⟩
        have hx3 := HX1.out.later hb3
        have x0 := (hx3.cell 0).trans (show _ = some (Value.int .i64 base) from rfl)
        have xl := hx3.lt
        have HF := Lib.hid (HW.out.trans ((HA1.out.trans (hb3.mono HA1.out.size)).mono HW.out.size))
        clear cr hb3 hx3 z0 z1 z2 z3 z4 z5 z6 z7 hbl
        go_wp2_with fail
        go_ret2
        have e1 := HRD.out.trans (HST2.out.trans (if_pos HAN.out))
        refine ⟨?_, HF.out⟩
        unfold aftV
        rw [e1]
        rfl
      | false =>
        rw [hany] at cr
        have HAN := Lib.hid hany
        clear hany
        go_wp2_with fail
        (with_reducible refine cr.mono ?_)
        rintro e w3 ⟨rfl, hb3⟩
        have HF := Lib.hid (HW.out.trans ((HA1.out.trans (hb3.mono HA1.out.size)).mono HW.out.size))
        clear cr hb3 z0 z1 z2 z3 z4 z5 z6 z7 hbl
        go_wp2_with fail
        exact ⟨⟨k + 1, by go_num, hkl, HST2.out.trans (if_neg (by rw [HAN.out]; decide)), HF.out⟩, by simp [intOf]; omega⟩
    · have hki : ¬ (k : Int) < (nn : Int) := by omega
      have hdr : ((s.L.drop r).map PX.told).drop k = [] := List.drop_eq_nil_of_le (by rw [HDL.out]; omega)
      rw [hdr] at ht
      have HF := Lib.hid (And.intro ht hbw)
      clear ht hbw hdr
      go_wp2_with fail
      go_ret2
      refine ⟨?_, HF.out.2⟩
      unfold aftV
      rw [HRD.out, HF.out.1]
      rfl
end Go.Proofs.YtjnphajkoopkgaaGreatDoor
