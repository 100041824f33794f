/- Whether a record may be: the program's mayBe and Check by contracts. -/
import Derived.Test.YtjnphajkoopkgaaGreatDoorRecOk
import Derived.Deep.DeepCutAuto
namespace Go.Proofs.YtjnphajkoopkgaaGreatDoor
open Go.RowKit
set_option linter.unusedVariables false
theorem okRec_num {r : Rec} (h : okNum r = false) : okRec r = false := by unfold okRec; rw [h]; rfl
theorem okRec_len {r : Rec} (h : okLen r = false) : okRec r = false := by unfold okRec; rw [h]; simp
theorem okRec_flag {r : Rec} (h : okFlag r = false) : okRec r = false := by unfold okRec; rw [h]; simp
theorem okRec_rest {r : Rec} (h1 : okNum r = true) (h2 : okLen r = true) (h3 : okFlag r = true) : okRec r = (okMany r && r.heads.all okHead) := by unfold okRec; rw [h1, h2, h3]; rfl
def NumBad (r : Rec) : Prop := okNum r = false
def LenBad (r : Rec) : Prop := okLen r = false
set_option maxHeartbeats 2000000 in
set_option maxRecDepth 100000 in
theorem mayBe_num (r : Rec) (A : Option Addr) (c : Nat) (W : World) (h : okNum r = false) : Calls Tryz.prog 150 #[recV r A c] W (Good W (.bool (okRec r))) := by
  have hf := Lib.hid (okRec_num h)
  have hn : ¬ (0 ≤ r.place ∧ r.place ≤ 49 ∧ 0 ≤ r.time ∧ r.time ≤ 1099511627776) := by simpa [okNum] using h
  clear h
  unfold recV recC
  go_enter Tryz.func150, Tryz.ntmps150
  go_wp2
  all_goals
    first
      | (exfalso; apply hn; omega)
      | (go_ret
         exact ⟨by rw [hf.out]; rfl, (Below.refl _ _).alloc (Nat.le_refl _) _⟩)
set_option maxHeartbeats 2000000 in
set_option maxRecDepth 100000 in
theorem mayBe_len (r : Rec) (A : Option Addr) (c : Nat) (W : World) (hk : r.key.size ≤ 1152921504606846976) (hv : r.value.size ≤ 1152921504606846976) (h : okNum r = true) (h2 : okLen r = false) : Calls Tryz.prog 150 #[recV r A c] W (Good W (.bool (okRec r))) := by
  have hf := Lib.hid (okRec_len h2)
  obtain ⟨n1, n2, n3, n4⟩ : 0 ≤ r.place ∧ r.place ≤ 49 ∧ 0 ≤ r.time ∧ r.time ≤ 1099511627776 := by simpa [okNum] using h
  have hn : ¬ (r.key.size ≤ 1000 ∧ r.value.size ≤ 1000) := by simpa [okLen] using h2
  clear h h2
  unfold recV recC
  go_enter Tryz.func150, Tryz.ntmps150
  go_wp2
  all_goals
    first
      | (exfalso; apply hn; omega)
      | (go_ret
         exact ⟨by rw [hf.out]; rfl, (Below.refl _ _).alloc (Nat.le_refl _) _⟩)
def FlagF (b g k v : Bool) : Bool := !((b && (g || !k)) || (g && !v))
theorem okFlag_of (r : Rec) : okFlag r = FlagF r.bare r.gone (decide (r.key.size = 0)) (decide (r.value.size = 0)) := by
  unfold okFlag FlagF
  by_cases h1 : r.key.size = 0 <;> by_cases h2 : r.value.size = 0 <;> simp [h1, h2]
set_option maxHeartbeats 4000000 in
set_option maxRecDepth 100000 in
theorem mayBe_flag (r : Rec) (A : Option Addr) (c : Nat) (W : World) (hk : r.key.size ≤ 1152921504606846976) (hv : r.value.size ≤ 1152921504606846976) (h : okNum r = true) (h2 : okLen r = true) (h3 : okFlag r = false) : Calls Tryz.prog 150 #[recV r A c] W (Good W (.bool (okRec r))) := by
  have hf := Lib.hid (okRec_flag h3)
  obtain ⟨n1, n2, n3, n4⟩ : 0 ≤ r.place ∧ r.place ≤ 49 ∧ 0 ≤ r.time ∧ r.time ≤ 1099511627776 := by simpa [okNum] using h
  obtain ⟨n5, n6⟩ : r.key.size ≤ 1000 ∧ r.value.size ≤ 1000 := by simpa [okLen] using h2
  rw [okFlag_of] at h3
  clear h h2
  unfold recV recC
  obtain ⟨place, time, bare, key, gone, value, heads⟩ := r
  simp only at *
  by_cases k0 : key.size = 0 <;> by_cases v0 : value.size = 0
  · rw [decide_eq_true k0, decide_eq_true v0] at h3
    have k1 := str_nil k0
    have v1 := str_nil v0
    clear k0 v0
    cases bare <;> cases gone <;> simp [FlagF] at h3
    all_goals
      go_enter Tryz.func150, Tryz.ntmps150
      go_wp2
      go_ret
      exact ⟨by rw [hf.out]; rfl, (Below.refl _ _).alloc (Nat.le_refl _) _⟩
  · rw [decide_eq_true k0, decide_eq_false v0] at h3
    have k1 := str_nil k0
    have v1 := list_ne v0
    have v2 := list_nn v0
    clear k0 v0
    cases bare <;> cases gone <;> simp [FlagF] at h3
    all_goals
      go_enter Tryz.func150, Tryz.ntmps150
      go_wp2
      go_ret
      exact ⟨by rw [hf.out]; rfl, (Below.refl _ _).alloc (Nat.le_refl _) _⟩
  · rw [decide_eq_false k0, decide_eq_true v0] at h3
    have k1 := list_ne k0
    have k2 := list_nn k0
    have v1 := str_nil v0
    clear k0 v0
    cases bare <;> cases gone <;> simp [FlagF] at h3
    all_goals
      go_enter Tryz.func150, Tryz.ntmps150
      go_wp2
      go_ret
      exact ⟨by rw [hf.out]; rfl, (Below.refl _ _).alloc (Nat.le_refl _) _⟩
  · rw [decide_eq_false k0, decide_eq_false v0] at h3
    have k1 := list_ne k0
    have k2 := list_nn k0
    have v1 := list_ne v0
    have v2 := list_nn v0
    clear k0 v0
    cases bare <;> cases gone <;> simp [FlagF] at h3
    all_goals
      go_enter Tryz.func150, Tryz.ntmps150
      go_wp2
      go_ret
      exact ⟨by rw [hf.out]; rfl, (Below.refl _ _).alloc (Nat.le_refl _) _⟩
set_option maxHeartbeats 4000000 in
set_option maxRecDepth 100000 in
/-- What is left of mayBe where all but the headers stands. -/
theorem mayBe_heads (place time : Int) (bare gone : Bool) (key value : ByteArray) (heads : List Hd) (A : Option Addr) (c : Nat) (W : World) (n1 : 0 ≤ place) (n2 : place ≤ 49) (n3 : 0 ≤ time) (n4 : time ≤ 1099511627776) (n5 : key.size ≤ 1000) (n6 : value.size ≤ 1000)
    (hR : RIn W ⟨place, time, bare, key, gone, value, heads⟩ A c) (hf : FlagF bare gone (decide (key.size = 0)) (decide (value.size = 0)) = true) :
    Calls Tryz.prog 150 #[recV ⟨place, time, bare, key, gone, value, heads⟩ A c] W (Good W (.bool (decide (heads.length ≤ 10) && heads.all okHead))) := by
  have hll : heads.length ≤ 140737488351232 := hR.len
  have cc := contains_c heads A c (W.alloc (.cells (recC ⟨place, time, bare, key, gone, value, heads⟩ A c) 85)) (hR.heads.below ((Below.refl _ _).alloc (Nat.le_refl _) _)) hR.len hR.each
  unfold recC at cc
  simp only at cc
  unfold recV recC
  simp only
  clear hR
  by_cases hm : heads.length ≤ 10
  · have HM := Lib.hid hm
    rw [decide_eq_true hm]
    by_cases k0 : key.size = 0 <;> by_cases v0 : value.size = 0
    · rw [decide_eq_true k0, decide_eq_true v0] at hf
      have k1 := str_nil k0
      have v1 := str_nil v0
      clear k0 v0
      cases bare <;> cases gone <;> simp [FlagF] at hf
      all_goals
        go_enter Tryz.func150, Tryz.ntmps150
        go_wp2_with ((with_reducible refine cc.mono ?_); rintro e w1 ⟨rfl, hb1⟩)
        go_ret
        exact ⟨ret_bool (by simp), ((Below.refl _ _).alloc (Nat.le_refl _) _).trans (hb1.mono (by simp))⟩
    · rw [decide_eq_true k0, decide_eq_false v0] at hf
      have k1 := str_nil k0
      have v1 := list_ne v0
      have v2 := list_nn v0
      clear k0 v0
      cases bare <;> cases gone <;> simp [FlagF] at hf
      all_goals
        go_enter Tryz.func150, Tryz.ntmps150
        go_wp2_with ((with_reducible refine cc.mono ?_); rintro e w1 ⟨rfl, hb1⟩)
        go_ret
        exact ⟨ret_bool (by simp), ((Below.refl _ _).alloc (Nat.le_refl _) _).trans (hb1.mono (by simp))⟩
    · rw [decide_eq_false k0, decide_eq_true v0] at hf
      have k1 := list_ne k0
      have k2 := list_nn k0
      have v1 := str_nil v0
      clear k0 v0
      cases bare <;> cases gone <;> simp [FlagF] at hf
      all_goals
        go_enter Tryz.func150, Tryz.ntmps150
        go_wp2_with ((with_reducible refine cc.mono ?_); rintro e w1 ⟨rfl, hb1⟩)
        go_ret
        exact ⟨ret_bool (by simp), ((Below.refl _ _).alloc (Nat.le_refl _) _).trans (hb1.mono (by simp))⟩
    · rw [decide_eq_false k0, decide_eq_false v0] at hf
      have k1 := list_ne k0
      have k2 := list_nn k0
      have v1 := list_ne v0
      have v2 := list_nn v0
      clear k0 v0
      cases bare <;> cases gone <;> simp [FlagF] at hf
      all_goals
        go_enter Tryz.func150, Tryz.ntmps150
        go_wp2_with ((with_reducible refine cc.mono ?_); rintro e w1 ⟨rfl, hb1⟩)
        go_ret
        exact ⟨ret_bool (by simp), ((Below.refl _ _).alloc (Nat.le_refl _) _).trans (hb1.mono (by simp))⟩
  · have hd : decide (heads.length ≤ 10) = false := decide_eq_false hm
    rw [hd]
    clear cc
    show Calls _ _ _ _ (Good W (.bool false))
    by_cases k0 : key.size = 0 <;> by_cases v0 : value.size = 0
    · rw [decide_eq_true k0, decide_eq_true v0] at hf
      have k1 := str_nil k0
      have v1 := str_nil v0
      clear k0 v0
      cases bare <;> cases gone <;> simp [FlagF] at hf
      all_goals
        go_enter Tryz.func150, Tryz.ntmps150
        go_wp2
        go_ret
        exact ⟨rfl, (Below.refl _ _).alloc (Nat.le_refl _) _⟩
    · rw [decide_eq_true k0, decide_eq_false v0] at hf
      have k1 := str_nil k0
      have v1 := list_ne v0
      have v2 := list_nn v0
      clear k0 v0
      cases bare <;> cases gone <;> simp [FlagF] at hf
      all_goals
        go_enter Tryz.func150, Tryz.ntmps150
        go_wp2
        go_ret
        exact ⟨rfl, (Below.refl _ _).alloc (Nat.le_refl _) _⟩
    · rw [decide_eq_false k0, decide_eq_true v0] at hf
      have k1 := list_ne k0
      have k2 := list_nn k0
      have v1 := str_nil v0
      clear k0 v0
      cases bare <;> cases gone <;> simp [FlagF] at hf
      all_goals
        go_enter Tryz.func150, Tryz.ntmps150
        go_wp2
        go_ret
        exact ⟨rfl, (Below.refl _ _).alloc (Nat.le_refl _) _⟩
    · rw [decide_eq_false k0, decide_eq_false v0] at hf
      have k1 := list_ne k0
      have k2 := list_nn k0
      have v1 := list_ne v0
      have v2 := list_nn v0
      clear k0 v0
      cases bare <;> cases gone <;> simp [FlagF] at hf
      all_goals
        go_enter Tryz.func150, Tryz.ntmps150
        go_wp2
        go_ret
        exact ⟨rfl, (Below.refl _ _).alloc (Nat.le_refl _) _⟩
theorem mayBe_c (r : Rec) (A : Option Addr) (c : Nat) (W : World) (hR : RIn W r A c) : Calls Tryz.prog 150 #[recV r A c] W (Good W (.bool (okRec r))) := by
  cases h1 : okNum r with
  | false => exact mayBe_num r A c W h1
  | true =>
    cases h2 : okLen r with
    | false => exact mayBe_len r A c W hR.key hR.value h1 h2
    | true =>
      cases h3 : okFlag r with
      | false => exact mayBe_flag r A c W hR.key hR.value h1 h2 h3
      | true =>
        rw [okRec_rest h1 h2 h3]
        obtain ⟨n1, n2, n3, n4⟩ : 0 ≤ r.place ∧ r.place ≤ 49 ∧ 0 ≤ r.time ∧ r.time ≤ 1099511627776 := by simpa [okNum] using h1
        obtain ⟨n5, n6⟩ : r.key.size ≤ 1000 ∧ r.value.size ≤ 1000 := by simpa [okLen] using h2
        rw [okFlag_of] at h3
        exact mayBe_heads r.place r.time r.bare r.gone r.key r.value r.heads A c W n1 n2 n3 n4 n5 n6 hR h3
/-- The error of a record: none, if it may be. -/
def recE (r : Rec) : Int := if okRec r = true then 0 else 1
theorem check_c (r : Rec) (A : Option Addr) (c : Nat) (W : World) (hR : RIn W r A c) : Calls Tryz.prog 136 #[recV r A c] W (Good W (.int .i64 (recE r))) := by
  have cm := mayBe_c r A c (W.alloc (.cells (recC r A c) 85)) (hR.below ((Below.refl _ _).alloc (Nat.le_refl _) _))
  have he : Hid (recE r = if okRec r = true then 0 else 1) := Lib.hid rfl
  clear hR
  unfold recV recC at *
  cases h : okRec r with
  | true =>
    rw [h] at cm he
    clear h
    go_enter Tryz.func136, Tryz.ntmps136
    go_wp2_with ((with_reducible refine cm.mono ?_); rintro e w1 ⟨rfl, hb1⟩)
    go_ret
    exact ⟨by rw [he.out]; rfl, ((Below.refl _ _).alloc (Nat.le_refl _) _).trans (hb1.mono (by simp))⟩
  | false =>
    rw [h] at cm he
    clear h
    go_enter Tryz.func136, Tryz.ntmps136
    go_wp2_with ((with_reducible refine cm.mono ?_); rintro e w1 ⟨rfl, hb1⟩)
    go_ret
    exact ⟨by rw [he.out]; rfl, ((Below.refl _ _).alloc (Nat.le_refl _) _).trans (hb1.mono (by simp))⟩
end Go.Proofs.YtjnphajkoopkgaaGreatDoor
