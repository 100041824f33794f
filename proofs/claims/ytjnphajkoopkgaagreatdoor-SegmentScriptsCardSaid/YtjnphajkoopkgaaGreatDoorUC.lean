/- Merged texts. What each proves is told at its head. -/
import Derived.Test.YtjnphajkoopkgaaGreatDoorUB
import Derived.Deep.DeepCutAuto
/- Whether a record may be: the program's mayBe, Check, marksOf, and the document's Check, by contracts. -/
namespace Go.Proofs.YtjnphajkoopkgaaGreatDoor
open Go.RowKit
set_option linter.unusedVariables false
theorem ret_bool {a b : Bool} (h : a = b) : Ending.returned (.bool a) = .returned (.bool b) := by rw [h]
theorem okHead_not (k v : ByteArray) : (!okHead (k, v)) = (decide ((k.size : Int) < 1) || decide (1000 < (k.size : Int)) || decide (1000 < (v.size : Int))) := by
  rw [Bool.eq_iff_iff]
  simp only [okHead, Bool.not_eq_true', decide_eq_false_iff_not, Bool.or_eq_true, decide_eq_true_eq]
  omega
set_option maxHeartbeats 1000000 in
theorem wrong_c (h : Hd) (W : World) (h1 : h.1.size ≤ 1152921504606846976) (h2 : h.2.size ≤ 1152921504606846976) :
    Calls Tryz.prog 169 #[.agg #[.string h.1, .string h.2]] W (Good W (.bool (!okHead h))) := by
  obtain ⟨k, v⟩ := h
  simp only at h1 h2
  go_enter Tryz.func169, Tryz.ntmps169
  go_wp2
  all_goals
    go_ret
    refine ⟨ret_bool ?_, (Below.refl _ _).alloc (Nat.le_refl _) _⟩
    rw [okHead_not]
    try
      (rw [Bool.eq_iff_iff]; simp only [Bool.or_eq_true, decide_eq_true_eq, true_iff]; omega)
structure IdxAt (W : World) (hs : List Hd) (k : Nat) (wr : World) : Prop where
  le : k ≤ hs.length
  ok : (hs.take k).all okHead = true
  bel : Below W.heap.size W wr
theorem all_take_succ {hs : List Hd} {k : Nat} (hk : k < hs.length) : (hs.take (k + 1)).all okHead = ((hs.take k).all okHead && okHead hs[k]) := by
  rw [List.take_succ_eq_append_getElem hk, List.all_append]
  simp
theorem all_false {hs : List Hd} {k : Nat} (hk : k < hs.length) (h : okHead hs[k] = false) : hs.all okHead = false := by
  rw [← Bool.not_eq_true, List.all_eq_true]
  intro ha
  have := ha _ (List.getElem_mem hk)
  rw [h] at this; cases this
/-- The index of the first wrong header, or -1. -/
def SomeIdx (hs : List Hd) (W : World) (e : Ending) (w' : World) : Prop := ∃ n : Int, e = .returned (.int .i64 n) ∧ decide (0 ≤ n) = !hs.all okHead ∧ Below W.heap.size W w'
set_option maxHeartbeats 2000000 in
theorem index_c (hs : List Hd) (A : Option Addr) (c : Nat) (W : World) (hH : HIn W A hs) (hl : hs.length ≤ 140737488351232) (hz : ∀ h ∈ hs, h.1.size ≤ 1152921504606846976 ∧ h.2.size ≤ 1152921504606846976) :
    Calls Tryz.prog 178 #[.slice A hs.length c, .func (.func 169) #[] #[]] W (SomeIdx hs W) := by
  go_enter Tryz.func178, Tryz.ntmps178
  have HH := Lib.hid hH
  clear hH
  go_wp2
  go_loopw [5, 8] (fun i j wr => ∃ k : Nat, j = .int .i64 k ∧ IdxAt W hs k wr) (fun _ j _ => hs.length - (intOf j).toNat)
  case atStart => exact ⟨0, rfl, Nat.zero_le _, rfl, Below.refl _ _⟩
  case round =>
    obtain ⟨k, rfl, hR⟩ := hrel
    have hle := hR.le
    by_cases hk : k < hs.length
    · obtain ⟨b, off, rfl, hlt, g1, g2⟩ := (HH.out.below hR.bel).at_ hk
      have hzk := hz _ (List.getElem_mem hk)
      have hw := fun w => wrong_c hs[k] w hzk.1 hzk.2
      have hs1 := Lib.hid (all_take_succ hk)
      have hs2 := Lib.hid (all_false (hs := hs) hk)
      have HR := Lib.hid hR
      clear hR hz hzk
      cases ho : okHead hs[k] with
      | true =>
        rw [ho] at hw
        have HO := Lib.hid ho
        clear ho
        go_wp2_with ((with_reducible refine (hw _).mono ?_); rintro e w1 ⟨rfl, hb1⟩)
        go_roundw
        case rel => exact ⟨k + 1, by go_num, by omega, by rw [hs1.out, HR.out.ok, HO.out]; rfl, bjoin HR.out.bel hb1 rfl rfl⟩
        case measure => simp [intOf]; omega
      | false =>
        rw [ho] at hw
        have HO := Lib.hid (hs2.out ho)
        clear ho hs2
        go_wp2_with ((with_reducible refine (hw _).mono ?_); rintro e w1 ⟨rfl, hb1⟩)
        go_ret
        exact ⟨k, rfl, by rw [HO.out]; simp, bjoin HR.out.bel hb1 rfl rfl⟩
    · have HA : Hid (hs.all okHead = true) := Lib.hid (by have h2 := hR.ok; rwa [List.take_of_length_le (by omega)] at h2)
      have hb := hR.bel
      clear hR
      go_wp2
      go_ret
      exact ⟨-1, rfl, by rw [HA.out]; rfl, hb⟩
theorem contains_c (hs : List Hd) (A : Option Addr) (c : Nat) (W : World) (hH : HIn W A hs) (hl : hs.length ≤ 140737488351232) (hz : ∀ h ∈ hs, h.1.size ≤ 1152921504606846976 ∧ h.2.size ≤ 1152921504606846976) :
    Calls Tryz.prog 168 #[.slice A hs.length c, .func (.func 169) #[] #[]] W (Good W (.bool (!hs.all okHead))) := by
  have hi := index_c hs A c W hH hl hz
  clear hH hz
  go_enter Tryz.func168, Tryz.ntmps168
  go_wp2_with ((with_reducible refine hi.mono ?_); rintro e w1 ⟨n, rfl, hn, hb1⟩; have HN := Lib.hid hn; clear hn)
  go_ret
  exact ⟨ret_bool HN.out, hb1⟩
/-- The sum of a record's marks. -/
theorem marks_c (r : Rec) (A : Option Addr) (c : Nat) (W : World) : Calls Tryz.prog 137 #[recV r A c] W (Good W (.int .i64 (marks r.bare r.gone))) := by
  obtain ⟨place, time, bare, key, gone, value, heads⟩ := r
  unfold recV recC
  cases bare <;> cases gone
  all_goals
    go_enter Tryz.func137, Tryz.ntmps137
    go_wp2
    go_ret
    exact ⟨rfl, (Below.refl _ _).alloc (Nat.le_refl _) _⟩
end Go.Proofs.YtjnphajkoopkgaaGreatDoor
/- Whether a record may be: the program's mayBe and Check by contracts. -/
namespace Go.Proofs.YtjnphajkoopkgaaGreatDoor
open Go.RowKit
set_option linter.unusedVariables false
theorem okRec_num {r : Rec} (h : okNum r = false) : okRec r = false := by unfold okRec; rw [h]; rfl
theorem okRec_len {r : Rec} (h : okLen r = false) : okRec r = false := by unfold okRec; rw [h]; simp
theorem okRec_flag {r : Rec} (h : okFlag r = false) : okRec r = false := by unfold okRec; rw [h]; simp
theorem okRec_rest {r : Rec} (h1 : okNum r = true) (h2 : okLen r = true) (h3 : okFlag r = true) : okRec r = (okMany r && r.heads.all okHead) := by unfold okRec; rw [h1, h2, h3]; rfl
set_option maxHeartbeats 2000000 in
set_option maxRecDepth 100000 in
theorem mayBe_num (r : Rec) (A : Option Addr) (c : Nat) (W : World) (h : okNum r = false) : Calls Tryz.prog 150 #[recV r A c] W (Good W (.bool (okRec r))) := by
  have hf := Lib.hid (okRec_num h)
  have hn : ¬ (0 ≤ r.place ∧ r.place ≤ 49 ∧ 0 ≤ r.time ∧ r.time ≤ 1099511627776) := by simpa [okNum] using h
  clear h
  unfold recV recC
  go_enter Tryz.func150, Tryz.ntmps150
  go_wp2
  all_goals
    first
      | (exfalso; apply hn; omega)
      | (go_ret
         exact ⟨by rw [hf.out]; rfl, (Below.refl _ _).alloc (Nat.le_refl _) _⟩)
set_option maxHeartbeats 2000000 in
set_option maxRecDepth 100000 in
theorem mayBe_len (r : Rec) (A : Option Addr) (c : Nat) (W : World) (hk : r.key.size ≤ 1152921504606846976) (hv : r.value.size ≤ 1152921504606846976) (h : okNum r = true) (h2 : okLen r = false) : Calls Tryz.prog 150 #[recV r A c] W (Good W (.bool (okRec r))) := by
  have hf := Lib.hid (okRec_len h2)
  obtain ⟨n1, n2, n3, n4⟩ : 0 ≤ r.place ∧ r.place ≤ 49 ∧ 0 ≤ r.time ∧ r.time ≤ 1099511627776 := by simpa [okNum] using h
  have hn : ¬ (r.key.size ≤ 1000 ∧ r.value.size ≤ 1000) := by simpa [okLen] using h2
  clear h h2
  unfold recV recC
  go_enter Tryz.func150, Tryz.ntmps150
  go_wp2
  all_goals
    first
      | (exfalso; apply hn; omega)
      | (go_ret
         exact ⟨by rw [hf.out]; rfl, (Below.refl _ _).alloc (Nat.le_refl _) _⟩)
def FlagF (b g k v : Bool) : Bool := !((b && (g || !k)) || (g && !v))
theorem okFlag_of (r : Rec) : okFlag r = FlagF r.bare r.gone (decide (r.key.size = 0)) (decide (r.value.size = 0)) := by
  unfold okFlag FlagF
  by_cases h1 : r.key.size = 0 <;> by_cases h2 : r.value.size = 0 <;> simp [h1, h2]
set_option maxHeartbeats 4000000 in
set_option maxRecDepth 100000 in
theorem mayBe_flag (r : Rec) (A : Option Addr) (c : Nat) (W : World) (hk : r.key.size ≤ 1152921504606846976) (hv : r.value.size ≤ 1152921504606846976) (h : okNum r = true) (h2 : okLen r = true) (h3 : okFlag r = false) : Calls Tryz.prog 150 #[recV r A c] W (Good W (.bool (okRec r))) := by
  have hf := Lib.hid (okRec_flag h3)
  obtain ⟨n1, n2, n3, n4⟩ : 0 ≤ r.place ∧ r.place ≤ 49 ∧ 0 ≤ r.time ∧ r.time ≤ 1099511627776 := by simpa [okNum] using h
  obtain ⟨n5, n6⟩ : r.key.size ≤ 1000 ∧ r.value.size ≤ 1000 := by simpa [okLen] using h2
  rw [okFlag_of] at h3
  clear h h2
  unfold recV recC
  obtain ⟨place, time, bare, key, gone, value, heads⟩ := r
  simp only at *
  by_cases k0 : key.size = 0 <;> by_cases v0 : value.size = 0
  · rw [decide_eq_true k0, decide_eq_true v0] at h3
    have k1 := str_nil k0
    have v1 := str_nil v0
    clear k0 v0
    cases bare <;> cases gone <;> simp [FlagF] at h3
    all_goals
      go_enter Tryz.func150, Tryz.ntmps150
      go_wp2
      go_ret
      exact ⟨by rw [hf.out]; rfl, (Below.refl _ _).alloc (Nat.le_refl _) _⟩
  · rw [decide_eq_true k0, decide_eq_false v0] at h3
    have k1 := str_nil k0
    have v1 := list_ne v0
    have v2 := list_nn v0
    clear k0 v0
    cases bare <;> cases gone <;> simp [FlagF] at h3
    all_goals
      go_enter Tryz.func150, Tryz.ntmps150
      go_wp2
      go_ret
      exact ⟨by rw [hf.out]; rfl, (Below.refl _ _).alloc (Nat.le_refl _) _⟩
  · rw [decide_eq_false k0, decide_eq_true v0] at h3
    have k1 := list_ne k0
    have k2 := list_nn k0
    have v1 := str_nil v0
    clear k0 v0
    cases bare <;> cases gone <;> simp [FlagF] at h3
    all_goals
      go_enter Tryz.func150, Tryz.ntmps150
      go_wp2
      go_ret
      exact ⟨by rw [hf.out]; rfl, (Below.refl _ _).alloc (Nat.le_refl _) _⟩
  · rw [decide_eq_false k0, decide_eq_false v0] at h3
    have k1 := list_ne k0
    have k2 := list_nn k0
    have v1 := list_ne v0
    have v2 := list_nn v0
    clear k0 v0
    cases bare <;> cases gone <;> simp [FlagF] at h3
    all_goals
      go_enter Tryz.func150, Tryz.ntmps150
      go_wp2
      go_ret
      exact ⟨by rw [hf.out]; rfl, (Below.refl _ _).alloc (Nat.le_refl _) _⟩
set_option maxHeartbeats 4000000 in
set_option maxRecDepth 100000 in
/-- What is left of mayBe where all but the headers stands. -/
theorem mayBe_heads (place time : Int) (bare gone : Bool) (key value : ByteArray) (heads : List Hd) (A : Option Addr) (c : Nat) (W : World) (n1 : 0 ≤ place) (n2 : place ≤ 49) (n3 : 0 ≤ time) (n4 : time ≤ 1099511627776) (n5 : key.size ≤ 1000) (n6 : value.size ≤ 1000)
    (hR : RIn W ⟨place, time, bare, key, gone, value, heads⟩ A c) (hf : FlagF bare gone (decide (key.size = 0)) (decide (value.size = 0)) = true) :
    Calls Tryz.prog 150 #[recV ⟨place, time, bare, key, gone, value, heads⟩ A c] W (Good W (.bool (decide (heads.length ≤ 10) && heads.all okHead))) := by
  have hll : heads.length ≤ 140737488351232 := hR.len
  have cc := contains_c heads A c (W.alloc (.cells (recC ⟨place, time, bare, key, gone, value, heads⟩ A c) 85)) (hR.heads.below ((Below.refl _ _).alloc (Nat.le_refl _) _)) hR.len hR.each
  unfold recC at cc
  simp only at cc
  unfold recV recC
  simp only
  clear hR
  by_cases hm : heads.length ≤ 10
  · have HM := Lib.hid hm
    rw [decide_eq_true hm]
    by_cases k0 : key.size = 0 <;> by_cases v0 : value.size = 0
    · rw [decide_eq_true k0, decide_eq_true v0] at hf
      have k1 := str_nil k0
      have v1 := str_nil v0
      clear k0 v0
      cases bare <;> cases gone <;> simp [FlagF] at hf
      all_goals
        go_enter Tryz.func150, Tryz.ntmps150
        go_wp2_with ((with_reducible refine cc.mono ?_); rintro e w1 ⟨rfl, hb1⟩)
        go_ret
        exact ⟨ret_bool (by simp), ((Below.refl _ _).alloc (Nat.le_refl _) _).trans (hb1.mono (by simp))⟩
    · rw [decide_eq_true k0, decide_eq_false v0] at hf
      have k1 := str_nil k0
      have v1 := list_ne v0
      have v2 := list_nn v0
      clear k0 v0
      cases bare <;> cases gone <;> simp [FlagF] at hf
      all_goals
        go_enter Tryz.func150, Tryz.ntmps150
        go_wp2_with ((with_reducible refine cc.mono ?_); rintro e w1 ⟨rfl, hb1⟩)
        go_ret
        exact ⟨ret_bool (by simp), ((Below.refl _ _).alloc (Nat.le_refl _) _).trans (hb1.mono (by simp))⟩
    · rw [decide_eq_false k0, decide_eq_true v0] at hf
      have k1 := list_ne k0
      have k2 := list_nn k0
      have v1 := str_nil v0
      clear k0 v0
      cases bare <;> cases gone <;> simp [FlagF] at hf
      all_goals
        go_enter Tryz.func150, Tryz.ntmps150
        go_wp2_with ((with_reducible refine cc.mono ?_); rintro e w1 ⟨rfl, hb1⟩)
        go_ret
        exact ⟨ret_bool (by simp), ((Below.refl _ _).alloc (Nat.le_refl _) _).trans (hb1.mono (by simp))⟩
    · rw [decide_eq_false k0, decide_eq_false v0] at hf
      have k1 := list_ne k0
      have k2 := list_nn k0
      have v1 := list_ne v0
      have v2 := list_nn v0
      clear k0 v0
      cases bare <;> cases gone <;> simp [FlagF] at hf
      all_goals
        go_enter Tryz.func150, Tryz.ntmps150
        go_wp2_with ((with_reducible refine cc.mono ?_); rintro e w1 ⟨rfl, hb1⟩)
        go_ret
        exact ⟨ret_bool (by simp), ((Below.refl _ _).alloc (Nat.le_refl _) _).trans (hb1.mono (by simp))⟩
  · have hd : decide (heads.length ≤ 10) = false := decide_eq_false hm
    rw [hd]
    clear cc
    show Calls _ _ _ _ (Good W (.bool false))
    by_cases k0 : key.size = 0 <;> by_cases v0 : value.size = 0
    · rw [decide_eq_true k0, decide_eq_true v0] at hf
      have k1 := str_nil k0
      have v1 := str_nil v0
      clear k0 v0
      cases bare <;> cases gone <;> simp [FlagF] at hf
      all_goals
        go_enter Tryz.func150, Tryz.ntmps150
        go_wp2
        go_ret
        exact ⟨rfl, (Below.refl _ _).alloc (Nat.le_refl _) _⟩
    · rw [decide_eq_true k0, decide_eq_false v0] at hf
      have k1 := str_nil k0
      have v1 := list_ne v0
      have v2 := list_nn v0
      clear k0 v0
      cases bare <;> cases gone <;> simp [FlagF] at hf
      all_goals
        go_enter Tryz.func150, Tryz.ntmps150
        go_wp2
        go_ret
        exact ⟨rfl, (Below.refl _ _).alloc (Nat.le_refl _) _⟩
    · rw [decide_eq_false k0, decide_eq_true v0] at hf
      have k1 := list_ne k0
      have k2 := list_nn k0
      have v1 := str_nil v0
      clear k0 v0
      cases bare <;> cases gone <;> simp [FlagF] at hf
      all_goals
        go_enter Tryz.func150, Tryz.ntmps150
        go_wp2
        go_ret
        exact ⟨rfl, (Below.refl _ _).alloc (Nat.le_refl _) _⟩
    · rw [decide_eq_false k0, decide_eq_false v0] at hf
      have k1 := list_ne k0
      have k2 := list_nn k0
      have v1 := list_ne v0
      have v2 := list_nn v0
      clear k0 v0
      cases bare <;> cases gone <;> simp [FlagF] at hf
      all_goals
        go_enter Tryz.func150, Tryz.ntmps150
        go_wp2
        go_ret
        exact ⟨rfl, (Below.refl _ _).alloc (Nat.le_refl _) _⟩
theorem mayBe_c (r : Rec) (A : Option Addr) (c : Nat) (W : World) (hR : RIn W r A c) : Calls Tryz.prog 150 #[recV r A c] W (Good W (.bool (okRec r))) := by
  cases h1 : okNum r with
  | false => exact mayBe_num r A c W h1
  | true =>
    cases h2 : okLen r with
    | false => exact mayBe_len r A c W hR.key hR.value h1 h2
    | true =>
      cases h3 : okFlag r with
      | false => exact mayBe_flag r A c W hR.key hR.value h1 h2 h3
      | true =>
        rw [okRec_rest h1 h2 h3]
        obtain ⟨n1, n2, n3, n4⟩ : 0 ≤ r.place ∧ r.place ≤ 49 ∧ 0 ≤ r.time ∧ r.time ≤ 1099511627776 := by simpa [okNum] using h1
        obtain ⟨n5, n6⟩ : r.key.size ≤ 1000 ∧ r.value.size ≤ 1000 := by simpa [okLen] using h2
        rw [okFlag_of] at h3
        exact mayBe_heads r.place r.time r.bare r.gone r.key r.value r.heads A c W n1 n2 n3 n4 n5 n6 hR h3
/-- The error of a record: none, if it may be. -/
def recE (r : Rec) : Int := if okRec r = true then 0 else 1
theorem check_c (r : Rec) (A : Option Addr) (c : Nat) (W : World) (hR : RIn W r A c) : Calls Tryz.prog 136 #[recV r A c] W (Good W (.int .i64 (recE r))) := by
  have cm := mayBe_c r A c (W.alloc (.cells (recC r A c) 85)) (hR.below ((Below.refl _ _).alloc (Nat.le_refl _) _))
  have he : Hid (recE r = if okRec r = true then 0 else 1) := Lib.hid rfl
  clear hR
  unfold recV recC at *
  cases h : okRec r with
  | true =>
    rw [h] at cm he
    clear h
    go_enter Tryz.func136, Tryz.ntmps136
    go_wp2_with ((with_reducible refine cm.mono ?_); rintro e w1 ⟨rfl, hb1⟩)
    go_ret
    exact ⟨by rw [he.out]; rfl, ((Below.refl _ _).alloc (Nat.le_refl _) _).trans (hb1.mono (by simp))⟩
  | false =>
    rw [h] at cm he
    clear h
    go_enter Tryz.func136, Tryz.ntmps136
    go_wp2_with ((with_reducible refine cm.mono ?_); rintro e w1 ⟨rfl, hb1⟩)
    go_ret
    exact ⟨by rw [he.out]; rfl, ((Below.refl _ _).alloc (Nat.le_refl _) _).trans (hb1.mono (by simp))⟩
end Go.Proofs.YtjnphajkoopkgaaGreatDoor
