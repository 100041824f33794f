/- assign: whether members and topics may be, by contracts. No condition. -/
import Derived.Test.YtlokhhjhckiloaaGreatAsRise
namespace Go.Proofs.YtlokhhjhckiloaaGreat
open Go.RowKit
set_option linter.unusedVariables false
/-- May a member be? A topic? -/
def okS (x : SX) : Bool := decide (0 ≤ x.1) && decide (x.1 ≤ 1073741824) && decide (x.2.1.length ≤ 20) && risesB bL x.2.1
def okT (x : TX) : Bool := decide (1 ≤ x.2) && decide (x.2 ≤ 16)
set_option maxHeartbeats 1000000 in
theorem wrongS_c (x : SX) (W : World) (hS : StrIn W x.2.2.1 x.2.1) (hl : x.2.1.length ≤ 140737488351232) : Calls Tryz.prog 131 #[sbV x] W (Good W (.bool (!okS x))) := by
  obtain ⟨m, T, A, c⟩ := x
  simp only at hS hl
  have hB : Below W.heap.size W (W.alloc (.cells #[.int .i64 m, .slice A T.length c] 142)) := (Below.refl _ _).alloc (Nat.le_refl _) _
  have cr := riseS_c T A c (W.alloc (.cells #[.int .i64 m, .slice A T.length c] 142)) (hS.below hB) hl
  unfold okS sbV sbC
  simp only
  by_cases h1 : m < 0
  · have e : (decide (0 ≤ m) && decide (m ≤ 1073741824) && decide (T.length ≤ 20) && risesB bL T) = false := by rw [decide_eq_false (show ¬ 0 ≤ m by omega)]; rfl
    rw [e]
    go_enter Tryz.func131, Tryz.ntmps131
    go_wp2
    go_ret
    exact ⟨rfl, hB⟩
  by_cases h2 : 1073741824 < m
  · have e : (decide (0 ≤ m) && decide (m ≤ 1073741824) && decide (T.length ≤ 20) && risesB bL T) = false := by rw [decide_eq_false (show ¬ m ≤ 1073741824 by omega)]; simp
    rw [e]
    go_enter Tryz.func131, Tryz.ntmps131
    go_wp2
    go_ret
    exact ⟨rfl, hB⟩
  by_cases h3 : 20 < T.length
  · have h3' : (20 : Int) < (T.length : Int) := by omega
    have e : (decide (0 ≤ m) && decide (m ≤ 1073741824) && decide (T.length ≤ 20) && risesB bL T) = false := by rw [decide_eq_false (show ¬ T.length ≤ 20 by omega)]; simp
    rw [e]
    go_enter Tryz.func131, Tryz.ntmps131
    go_wp2
    go_ret
    exact ⟨rfl, hB⟩
  · have h3' : ¬ (20 : Int) < (T.length : Int) := by omega
    rw [decide_eq_true (show 0 ≤ m by omega), decide_eq_true (show m ≤ 1073741824 by omega), decide_eq_true (show T.length ≤ 20 by omega)]
    have HB := Lib.hid hB
    clear hB
    go_enter Tryz.func131, Tryz.ntmps131
    go_wp2_with ((with_reducible refine cr.mono ?_); rintro e w1 ⟨rfl, hb1⟩)
    go_ret
    exact ⟨rfl, HB.out.trans (hb1.mono HB.out.size)⟩
set_option maxHeartbeats 1000000 in
theorem wrongT_c (x : TX) (W : World) : Calls Tryz.prog 137 #[tpV x] W (Good W (.bool (!okT x))) := by
  obtain ⟨s, m⟩ := x
  have hB : Below W.heap.size W (W.alloc (.cells #[.string s, .int .i64 m] 162)) := (Below.refl _ _).alloc (Nat.le_refl _) _
  unfold okT tpV tpC
  simp only
  by_cases h1 : m < 1
  · have e : (decide (1 ≤ m) && decide (m ≤ 16)) = false := by rw [decide_eq_false (show ¬ 1 ≤ m by omega)]; rfl
    rw [e]
    go_enter Tryz.func137, Tryz.ntmps137
    go_wp2
    go_ret
    exact ⟨rfl, hB⟩
  by_cases h2 : 16 < m
  · have e : (decide (1 ≤ m) && decide (m ≤ 16)) = false := by rw [decide_eq_false (show ¬ m ≤ 16 by omega)]; simp
    rw [e]
    go_enter Tryz.func137, Tryz.ntmps137
    go_wp2
    go_ret
    exact ⟨rfl, hB⟩
  · rw [decide_eq_true (show 1 ≤ m by omega), decide_eq_true (show m ≤ 16 by omega)]
    go_enter Tryz.func137, Tryz.ntmps137
    go_wp2
    go_ret
    exact ⟨rfl, hB⟩
structure IdxAt {α : Type} (ok : α → Bool) (W : World) (hs : List α) (k : Nat) (wr : World) : Prop where
  le : k ≤ hs.length
  ok : (hs.take k).all ok = true
  bel : Below W.heap.size W wr
theorem all_take_succ {α : Type} {ok : α → Bool} {hs : List α} {k : Nat} (hk : k < hs.length) : (hs.take (k + 1)).all ok = ((hs.take k).all ok && ok hs[k]) := by
  rw [List.take_succ_eq_append_getElem hk, List.all_append]
  simp
theorem all_false {α : Type} {ok : α → Bool} {hs : List α} {k : Nat} (hk : k < hs.length) (h : ok hs[k] = false) : hs.all ok = false := by
  rw [← Bool.not_eq_true, List.all_eq_true]
  intro ha
  have := ha _ (List.getElem_mem hk)
  rw [h] at this; cases this
def SomeIdx {α : Type} (ok : α → Bool) (hs : List α) (W : World) (e : Ending) (w' : World) : Prop := ∃ n : Int, e = .returned (.int .i64 n) ∧ decide (0 ≤ n) = !hs.all ok ∧ Below W.heap.size W w'
set_option maxHeartbeats 2000000 in
theorem indexS_c (L : List SX) (A : Option Addr) (c : Nat) (W : World) (hH : SbIn W A L) (hl : L.length ≤ 140737488351232) (hz : ∀ x ∈ L, x.2.1.length ≤ 140737488351232) :
    Calls Tryz.prog 153 #[.slice A L.length c, .func (.func 131) #[] #[]] W (SomeIdx okS L W) := by
  go_enter Tryz.func153, Tryz.ntmps153
  have HH := Lib.hid hH
  clear hH
  go_wp2
  go_loopw [5, 8] (fun i j wr => ∃ k : Nat, j = .int .i64 k ∧ IdxAt okS W L k wr) (fun _ j _ => L.length - (intOf j).toNat)
  case atStart => exact ⟨0, rfl, Nat.zero_le _, rfl, Below.refl _ _⟩
  case round =>
    obtain ⟨k, rfl, hR⟩ := hrel
    have hle := hR.le
    by_cases hk : k < L.length
    · obtain ⟨b, off, rfl, hlt, g1, g2, g3⟩ := (HH.out.below hR.bel).at_ hk
      have hw := fun w (h : Below wr.heap.size wr w) => wrongS_c L[k] w (g3.below h) (hz _ (List.getElem_mem hk))
      unfold sbV sbC at hw
      clear g3 hz
      have hs1 := Lib.hid (all_take_succ (ok := okS) hk)
      have hs2 := Lib.hid (all_false (ok := okS) hk)
      have HR := Lib.hid hR
      clear hR
      generalize L[k] = x0 at *
      cases ho : okS x0 with
      | true =>
        rw [ho] at hw
        have HO := Lib.hid ho
        clear ho
        go_wp2_with ((with_reducible refine (hw _ (Below.refl _ _)).mono ?_); rintro e w1 ⟨rfl, hb1⟩)
        go_roundw
        case rel => exact ⟨k + 1, by go_num, by omega, by rw [hs1.out, HR.out.ok, HO.out]; rfl, bjoin HR.out.bel hb1 rfl rfl⟩
        case measure => simp [intOf]; omega
      | false =>
        rw [ho] at hw
        have HO := Lib.hid (hs2.out ho)
        clear ho hs2
        go_wp2_with ((with_reducible refine (hw _ (Below.refl _ _)).mono ?_); rintro e w1 ⟨rfl, hb1⟩)
        go_ret
        exact ⟨k, rfl, by rw [HO.out]; simp, bjoin HR.out.bel hb1 rfl rfl⟩
    · have HA : Hid (L.all okS = true) := Lib.hid (by have h2 := hR.ok; rwa [List.take_of_length_le (by omega)] at h2)
      have hb := hR.bel
      clear hR
      go_wp2
      go_ret
      exact ⟨-1, rfl, by rw [HA.out]; rfl, hb⟩
theorem containsS_c (L : List SX) (A : Option Addr) (c : Nat) (W : World) (hH : SbIn W A L) (hl : L.length ≤ 140737488351232) (hz : ∀ x ∈ L, x.2.1.length ≤ 140737488351232) :
    Calls Tryz.prog 134 #[.slice A L.length c, .func (.func 131) #[] #[]] W (Good W (.bool (!L.all okS))) := by
  have hi := indexS_c L A c W hH hl hz
  clear hH
  go_enter Tryz.func134, Tryz.ntmps134
  go_wp2_with ((with_reducible refine hi.mono ?_); rintro e w1 ⟨n, rfl, hn, hb1⟩; have HN := Lib.hid hn; clear hn)
  go_ret
  exact ⟨ret_bool HN.out, hb1⟩
set_option maxHeartbeats 2000000 in
theorem indexT_c (L : List TX) (A : Option Addr) (c : Nat) (W : World) (hH : TpIn W A L) (hl : L.length ≤ 140737488351232) :
    Calls Tryz.prog 154 #[.slice A L.length c, .func (.func 137) #[] #[]] W (SomeIdx okT L W) := by
  go_enter Tryz.func154, Tryz.ntmps154
  have HH := Lib.hid hH
  clear hH
  go_wp2
  go_loopw [5, 8] (fun i j wr => ∃ k : Nat, j = .int .i64 k ∧ IdxAt okT W L k wr) (fun _ j _ => L.length - (intOf j).toNat)
  case atStart => exact ⟨0, rfl, Nat.zero_le _, rfl, Below.refl _ _⟩
  case round =>
    obtain ⟨k, rfl, hR⟩ := hrel
    have hle := hR.le
    by_cases hk : k < L.length
    · obtain ⟨b, off, rfl, hlt, g1, g2⟩ := (HH.out.below hR.bel).at_ hk
      have hw := fun w => wrongT_c L[k] w
      unfold tpV tpC at hw
      have hs1 := Lib.hid (all_take_succ (ok := okT) hk)
      have hs2 := Lib.hid (all_false (ok := okT) hk)
      have HR := Lib.hid hR
      clear hR
      generalize L[k] = x0 at *
      cases ho : okT x0 with
      | true =>
        rw [ho] at hw
        have HO := Lib.hid ho
        clear ho
        go_wp2_with ((with_reducible refine (hw _).mono ?_); rintro e w1 ⟨rfl, hb1⟩)
        go_roundw
        case rel => exact ⟨k + 1, by go_num, by omega, by rw [hs1.out, HR.out.ok, HO.out]; rfl, bjoin HR.out.bel hb1 rfl rfl⟩
        case measure => simp [intOf]; omega
      | false =>
        rw [ho] at hw
        have HO := Lib.hid (hs2.out ho)
        clear ho hs2
        go_wp2_with ((with_reducible refine (hw _).mono ?_); rintro e w1 ⟨rfl, hb1⟩)
        go_ret
        exact ⟨k, rfl, by rw [HO.out]; simp, bjoin HR.out.bel hb1 rfl rfl⟩
    · have HA : Hid (L.all okT = true) := Lib.hid (by have h2 := hR.ok; rwa [List.take_of_length_le (by omega)] at h2)
      have hb := hR.bel
      clear hR
      go_wp2
      go_ret
      exact ⟨-1, rfl, by rw [HA.out]; rfl, hb⟩
theorem containsT_c (L : List TX) (A : Option Addr) (c : Nat) (W : World) (hH : TpIn W A L) (hl : L.length ≤ 140737488351232) :
    Calls Tryz.prog 138 #[.slice A L.length c, .func (.func 137) #[] #[]] W (Good W (.bool (!L.all okT))) := by
  have hi := indexT_c L A c W hH hl
  clear hH
  go_enter Tryz.func138, Tryz.ntmps138
  go_wp2_with ((with_reducible refine hi.mono ?_); rintro e w1 ⟨n, rfl, hn, hb1⟩; have HN := Lib.hid hn; clear hn)
  go_ret
  exact ⟨ret_bool HN.out, hb1⟩
def mayS (L : List SX) : Bool := decide (L.length ≤ 20) && L.all okS && risesB sL L
def mayT (L : List TX) : Bool := decide (L.length ≤ 20) && L.all okT && risesB tL L
set_option maxHeartbeats 1000000 in
theorem mayS_c (L : List SX) (A : Option Addr) (c : Nat) (W : World) (hH : SbIn W A L) (hl : L.length ≤ 140737488351232) (hz : ∀ x ∈ L, x.2.1.length ≤ 140737488351232) :
    Calls Tryz.prog 120 #[.slice A L.length c] W (Good W (.bool (mayS L))) := by
  have c1 := containsS_c L A c W hH hl hz
  have c2 := fun w hh => riseM_c L A c w hh hl
  have HH := Lib.hid hH
  clear hH
  unfold mayS
  by_cases h1 : 20 < L.length
  · have h1' : ¬ ((L.length : Int) ≤ 20) := by omega
    rw [decide_eq_false (show ¬ L.length ≤ 20 by omega)]
    go_enter Tryz.func120, Tryz.ntmps120
    go_wp2_with fail
    go_ret
    exact ⟨rfl, Below.refl _ _⟩
  have h1' : ((L.length : Int) ≤ 20) := by omega
  rw [decide_eq_true (show L.length ≤ 20 by omega)]
  cases h2 : L.all okS with
  | false =>
    rw [h2] at c1
    clear h2
    go_enter Tryz.func120, Tryz.ntmps120
    go_wp2_with fail
    with_reducible refine c1.mono ?_
    rintro e w1 ⟨rfl, hb1⟩
    go_wp2_with fail
    go_ret
    exact ⟨rfl, hb1⟩
  | true =>
    rw [h2] at c1
    clear h2
    go_enter Tryz.func120, Tryz.ntmps120
    go_wp2_with fail
    with_reducible refine c1.mono ?_
    rintro e w1 ⟨rfl, hb1⟩
    go_wp2_with fail
    with_reducible refine (c2 _ (HH.out.below hb1)).mono ?_
    rintro e w2 ⟨rfl, hb2⟩
    go_wp2_with fail
    go_ret
    exact ⟨rfl, hb1.trans (hb2.mono hb1.size)⟩
set_option maxHeartbeats 1000000 in
theorem mayT_c (L : List TX) (A : Option Addr) (c : Nat) (W : World) (hH : TpIn W A L) (hl : L.length ≤ 140737488351232) :
    Calls Tryz.prog 121 #[.slice A L.length c] W (Good W (.bool (mayT L))) := by
  have c1 := containsT_c L A c W hH hl
  have c2 := fun w hh => riseT_c L A c w hh hl
  have HH := Lib.hid hH
  clear hH
  unfold mayT
  by_cases h1 : 20 < L.length
  · have h1' : ¬ ((L.length : Int) ≤ 20) := by omega
    rw [decide_eq_false (show ¬ L.length ≤ 20 by omega)]
    go_enter Tryz.func121, Tryz.ntmps121
    go_wp2_with fail
    go_ret
    exact ⟨rfl, Below.refl _ _⟩
  have h1' : ((L.length : Int) ≤ 20) := by omega
  rw [decide_eq_true (show L.length ≤ 20 by omega)]
  cases h2 : L.all okT with
  | false =>
    rw [h2] at c1
    clear h2
    go_enter Tryz.func121, Tryz.ntmps121
    go_wp2_with fail
    with_reducible refine c1.mono ?_
    rintro e w1 ⟨rfl, hb1⟩
    go_wp2_with fail
    go_ret
    exact ⟨rfl, hb1⟩
  | true =>
    rw [h2] at c1
    clear h2
    go_enter Tryz.func121, Tryz.ntmps121
    go_wp2_with fail
    with_reducible refine c1.mono ?_
    rintro e w1 ⟨rfl, hb1⟩
    go_wp2_with fail
    with_reducible refine (c2 _ (HH.out.below hb1)).mono ?_
    rintro e w2 ⟨rfl, hb2⟩
    go_wp2_with fail
    go_ret
    exact ⟨rfl, hb1.trans (hb2.mono hb1.size)⟩
/-- What Check tells. -/
def chkE (S : List SX) (T : List TX) : Int := if mayS S && mayT T then 0 else 1
set_option maxHeartbeats 1000000 in
theorem check_c (S : List SX) (A : Option Addr) (c : Nat) (T : List TX) (A2 : Option Addr) (c2 : Nat) (W : World) (hS : SbIn W A S) (hT : TpIn W A2 T) (hl : S.length ≤ 140737488351232) (hl2 : T.length ≤ 140737488351232) (hz : ∀ x ∈ S, x.2.1.length ≤ 140737488351232) :
    Calls Tryz.prog 100 #[.slice A S.length c, .slice A2 T.length c2] W (Good W (.int .i64 (chkE S T))) := by
  have c1 := mayS_c S A c W hS hl hz
  have c3 := fun w hh => mayT_c T A2 c2 w hh hl2
  have HT := Lib.hid hT
  clear hT hS hz
  unfold chkE
  cases h1 : mayS S with
  | false =>
    rw [h1] at c1
    clear h1
    go_enter Tryz.func100, Tryz.ntmps100
    go_wp2_with fail
    with_reducible refine c1.mono ?_
    rintro e w1 ⟨rfl, hb1⟩
    go_wp2_with fail
    go_ret
    exact ⟨rfl, hb1⟩
  | true =>
    rw [h1] at c1
    clear h1
    cases h2 : mayT T with
    | false =>
      rw [h2] at c3
      clear h2
      go_enter Tryz.func100, Tryz.ntmps100
      go_wp2_with fail
      with_reducible refine c1.mono ?_
      rintro e w1 ⟨rfl, hb1⟩
      go_wp2_with fail
      with_reducible refine (c3 _ (HT.out.below hb1)).mono ?_
      rintro e w2 ⟨rfl, hb2⟩
      go_wp2_with fail
      go_ret
      exact ⟨rfl, hb1.trans (hb2.mono hb1.size)⟩
    | true =>
      rw [h2] at c3
      clear h2
      go_enter Tryz.func100, Tryz.ntmps100
      go_wp2_with fail
      with_reducible refine c1.mono ?_
      rintro e w1 ⟨rfl, hb1⟩
      go_wp2_with fail
      with_reducible refine (c3 _ (HT.out.below hb1)).mono ?_
      rintro e w2 ⟨rfl, hb2⟩
      go_wp2_with fail
      go_ret
      exact ⟨rfl, hb1.trans (hb2.mono hb1.size)⟩
end Go.Proofs.YtlokhhjhckiloaaGreat
