/- Merged texts. What each proves is told at its head. -/
import Derived.Test.YtjnphajkoopkgaaGreatDoorUC
import Derived.Test.YtjnphajkoopkgaaGreatDoorMem
import Derived.Deep.DeepCutAuto
/- The document's Check by a contract. -/
namespace Go.Proofs.YtjnphajkoopkgaaGreatDoor
open Go.RowKit
set_option linter.unusedVariables false
set_option maxHeartbeats 2000000 in
set_option maxRecDepth 100000 in
theorem rcheck_num (r : Rec) (A : Option Addr) (c : Nat) (W : World) (hk : r.key.size ≤ 1152921504606846976) (hv : r.value.size ≤ 1152921504606846976) (hl : r.heads.length ≤ 140737488351232) (h : okNum r = false ∨ okLen r = false ∨ okMany r = false) :
    Calls Tryz.prog 127 #[recV r A c] W (Good W (.int .i64 (recE r))) := by
  have hf : Hid (recE r = 1) := Lib.hid (by
    unfold recE okRec
    rcases h with h | h | h <;> rw [h] <;> simp)
  have hn : ¬ (0 ≤ r.place ∧ r.place ≤ 49 ∧ 0 ≤ r.time ∧ r.time ≤ 1099511627776 ∧ r.key.size ≤ 1000 ∧ r.value.size ≤ 1000 ∧ r.heads.length ≤ 10) := by
    rcases h with h | h | h
    · have : ¬ (0 ≤ r.place ∧ r.place ≤ 49 ∧ 0 ≤ r.time ∧ r.time ≤ 1099511627776) := by simpa [okNum] using h
      omega
    · have : ¬ (r.key.size ≤ 1000 ∧ r.value.size ≤ 1000) := by simpa [okLen] using h
      omega
    · have : ¬ (r.heads.length ≤ 10) := by simpa [okMany] using h
      omega
  clear h
  unfold recV recC
  go_enter Tryz.func127, Tryz.ntmps127
  go_wp2
  all_goals
    first
      | (exfalso; apply hn; omega)
      | (go_ret
         exact ⟨by rw [hf.out]; rfl, (Below.refl _ _).alloc (Nat.le_refl _) _⟩)
def chkF (fl : Bool) (hs : List Hd) : Int := if fl && hs.all okHead then 0 else 1
theorem chk_bad {hs : List Hd} (h : hs.all okHead = false) : chkF true hs = 1 := by unfold chkF; rw [h]; rfl
structure ChkAt (W : World) (hs : List Hd) (A : Option Addr) (c k : Nat) (wr : World) : Prop where
  le : k ≤ hs.length
  ok : (hs.take k).all okHead = true
  bel : Below W.heap.size W wr
  lt : W.heap.size < wr.heap.size
  box : wr.cell? ⟨W.heap.size, 6, none⟩ = some (.slice A hs.length c)
theorem ChkAt.step {W wr : World} {hs : List Hd} {A : Option Addr} {c k : Nat} (h : ChkAt W hs A c k wr) (hk : k < hs.length) (ho : okHead hs[k] = true) (o : Obj) : ChkAt W hs A c (k + 1) (wr.alloc o) :=
  ⟨hk, by rw [all_take_succ hk, h.ok, ho]; rfl, h.bel.alloc (Nat.le_of_lt h.lt) _, by have := h.lt; simp; omega, (World.cell?_alloc_lt _ _ _ (by simpa using h.lt)).trans h.box⟩
set_option maxHeartbeats 4000000 in
set_option maxRecDepth 100000 in
theorem rcheck_rest (place time : Int) (bare gone : Bool) (key value : ByteArray) (heads : List Hd) (A : Option Addr) (c : Nat) (W : World) (n1 : 0 ≤ place) (n2 : place ≤ 49) (n3 : 0 ≤ time) (n4 : time ≤ 1099511627776) (n5 : key.size ≤ 1000) (n6 : value.size ≤ 1000)
    (n7 : heads.length ≤ 10) (hR : RIn W ⟨place, time, bare, key, gone, value, heads⟩ A c) :
    Calls Tryz.prog 127 #[recV ⟨place, time, bare, key, gone, value, heads⟩ A c] W (Good W (.int .i64 (chkF (FlagF bare gone (decide (key.size = 0)) (decide (value.size = 0))) heads))) := by
  obtain ⟨bad, hok⟩ : ∃ bad, bad = !FlagF bare gone (decide (key.size = 0)) (decide (value.size = 0)) := ⟨_, rfl⟩
  have hf := Lib.hid hok
  have hok2 : FlagF bare gone (decide (key.size = 0)) (decide (value.size = 0)) = !bad := by rw [hok]; simp
  rw [hok2]
  clear hok hok2
  have hlc : heads.length ≤ 140737488351232 := hR.len
  have HZ := Lib.hid hR.each
  have HH := Lib.hid hR.heads
  simp only at HZ HH
  clear hR
  unfold recV recC
  simp only
  go_enter Tryz.func127, Tryz.ntmps127
  go_upto_region 3 with fail
  go_cut [64] (fun s w => s = .bool bad ∧ w = W.alloc (.cells #[.int .i64 place, .int .i64 time, .bool bare, .string key, .bool gone, .string value, .slice A heads.length c] 85))
  case first =>
    by_cases k0 : key.size = 0 <;> by_cases v0 : value.size = 0
    · have hf2 := hf.out
      rw [decide_eq_true k0, decide_eq_true v0] at hf2
      have k1 := str_nil k0
      have v1 := str_nil v0
      clear k0 v0 hf
      cases bare <;> cases gone <;> simp [FlagF] at hf2 <;> subst hf2
      all_goals go_wp2_with fail
      all_goals go_meet
      all_goals exact ⟨rfl, rfl⟩
    · have hf2 := hf.out
      rw [decide_eq_true k0, decide_eq_false v0] at hf2
      have k1 := str_nil k0
      have v1 := list_ne v0
      have v2 := list_nn v0
      clear k0 v0 hf
      cases bare <;> cases gone <;> simp [FlagF] at hf2 <;> subst hf2
      all_goals go_wp2_with fail
      all_goals go_meet
      all_goals exact ⟨rfl, rfl⟩
    · have hf2 := hf.out
      rw [decide_eq_false k0, decide_eq_true v0] at hf2
      have k1 := list_ne k0
      have k2 := list_nn k0
      have v1 := str_nil v0
      clear k0 v0 hf
      cases bare <;> cases gone <;> simp [FlagF] at hf2 <;> subst hf2
      all_goals go_wp2_with fail
      all_goals go_meet
      all_goals exact ⟨rfl, rfl⟩
    · have hf2 := hf.out
      rw [decide_eq_false k0, decide_eq_false v0] at hf2
      have k1 := list_ne k0
      have k2 := list_nn k0
      have v1 := list_ne v0
      have v2 := list_nn v0
      clear k0 v0 hf
      cases bare <;> cases gone <;> simp [FlagF] at hf2 <;> subst hf2
      all_goals go_wp2_with fail
      all_goals go_meet
      all_goals exact ⟨rfl, rfl⟩
  case rest =>
    obtain ⟨rfl, rfl⟩ := hcut
    clear hf
    cases bad with
    | true =>
      go_wp2
      go_ret
      exact ⟨rfl, (Below.refl _ _).alloc (Nat.le_refl _) _⟩
    | false =>
      have HST : Hid (ChkAt W heads A c 0 (W.alloc (.cells #[.int .i64 place, .int .i64 time, .bool bare, .string key, .bool gone, .string value, .slice A heads.length c] 85))) :=
        Lib.hid ⟨Nat.zero_le _, rfl, (Below.refl _ _).alloc (Nat.le_refl _) _, by simp, by rw [(Box.new _ _ _).cell]; rfl⟩
      go_wp2
      go_loopw [3, 4] (fun i x wr => ∃ k : Nat, i = .int .i64 k ∧ ChkAt W heads A c k wr) (fun i _ _ => heads.length - (intOf i).toNat)
      case atStart => exact ⟨0, rfl, HST.out⟩
      case round =>
        obtain ⟨k, rfl, hR⟩ := hrel
        have hbox := hR.box
        have hle := hR.le
        have hlt := hR.lt
        by_cases hk : k < heads.length
        · obtain ⟨b, off, rfl, hbl, g1, g2⟩ := (HH.out.below hR.bel).at_ hk
          have hs1 := Lib.hid (all_take_succ hk)
          have hs2 := Lib.hid (all_false (hs := heads) hk)
          have hzk := HZ.out _ (List.getElem_mem hk)
          have HR := Lib.hid hR
          have hnot := okHead_not heads[k].1 heads[k].2
          have hx1 := hzk.1
          have hx2 := hzk.2
          clear hzk hR
          generalize hz : heads[k] = z at *
          have HZK := Lib.hid hz
          have HN := Lib.hid hnot
          clear hz hnot
          go_wp2
          · have HB : Hid (okHead z = false) := Lib.hid (by simp only [okHead, decide_eq_false_iff_not]; omega)
            go_ret
            exact ⟨congrArg (fun n : Int => Ending.returned (Value.int .i64 n)) (chk_bad (hs2.out HB.out)).symm, HR.out.bel.alloc (by omega) _⟩
          · have HB : Hid (okHead z = true) := Lib.hid (by simp only [okHead, decide_eq_true_eq]; omega)
            go_roundw
            case rel => exact ⟨k + 1, by go_num, HR.out.step hk (by rw [HZK.out]; exact HB.out) _⟩
            case measure => simp [intOf]; omega
          · have HB : Hid (okHead z = false) := Lib.hid (by simp only [okHead, decide_eq_false_iff_not]; omega)
            go_ret
            exact ⟨congrArg (fun n : Int => Ending.returned (Value.int .i64 n)) (chk_bad (hs2.out HB.out)).symm, HR.out.bel.alloc (by omega) _⟩
          · have HB : Hid (okHead z = false) := Lib.hid (by simp only [okHead, decide_eq_false_iff_not]; omega)
            go_ret
            exact ⟨congrArg (fun n : Int => Ending.returned (Value.int .i64 n)) (chk_bad (hs2.out HB.out)).symm, HR.out.bel.alloc (by omega) _⟩
        · have HA : Hid (chkF true heads = 0) := Lib.hid (by have h2 := hR.ok; rw [List.take_of_length_le (by omega)] at h2; unfold chkF; rw [h2]; rfl)
          have hb := hR.bel
          clear hR
          go_wp2
          go_ret
          exact ⟨congrArg (fun n : Int => Ending.returned (Value.int .i64 n)) HA.out.symm, hb⟩
theorem rcheck_c (r : Rec) (A : Option Addr) (c : Nat) (W : World) (hR : RIn W r A c) : Calls Tryz.prog 127 #[recV r A c] W (Good W (.int .i64 (recE r))) := by
  have hl : r.heads.length ≤ 140737488351232 := hR.len
  cases h1 : okNum r with
  | false => exact rcheck_num r A c W hR.key hR.value hl (.inl h1)
  | true =>
    cases h2 : okLen r with
    | false => exact rcheck_num r A c W hR.key hR.value hl (.inr (.inl h2))
    | true =>
      cases h3 : okMany r with
      | false => exact rcheck_num r A c W hR.key hR.value hl (.inr (.inr h3))
      | true =>
        obtain ⟨n1, n2, n3, n4⟩ : 0 ≤ r.place ∧ r.place ≤ 49 ∧ 0 ≤ r.time ∧ r.time ≤ 1099511627776 := by simpa [okNum] using h1
        obtain ⟨n5, n6⟩ : r.key.size ≤ 1000 ∧ r.value.size ≤ 1000 := by simpa [okLen] using h2
        have n7 : r.heads.length ≤ 10 := by simpa [okMany] using h3
        have he : recE r = chkF (FlagF r.bare r.gone (decide (r.key.size = 0)) (decide (r.value.size = 0))) r.heads := by
          unfold recE chkF okRec
          rw [h1, h2, h3, okFlag_of]
          cases FlagF r.bare r.gone (decide (r.key.size = 0)) (decide (r.value.size = 0)) <;> rfl
        rw [he]
        exact rcheck_rest r.place r.time r.bare r.gone r.key r.value r.heads A c W n1 n2 n3 n4 n5 n6 n7 hR
end Go.Proofs.YtjnphajkoopkgaaGreatDoor
