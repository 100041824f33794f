/- clean: whether a batch is its producer's last one, as the document asks it, by a contract. No condition but that they are not too many. -/
import Derived.Test.YtdclkhbolmbnmaaDoorClMn
import Derived.BigQuiet
import Derived.Deep.QuietTactic
namespace Go.Proofs.YtdclkhbolmbnmaaDoor
open Go.RowKit Go.Maps Go.ChangeMaps Go.WideMaps
set_option linter.unusedVariables false
def LastP (L : List BX) (i : Nat) (p : Int) : Prop := 0 ≤ p ∧ ∀ n z, i < n → L[n]? = some z → z.1.prod ≠ p
def GotLs (W : World) (L : List BX) (i : Nat) (p : Int) (e : Ending) (w' : World) : Prop := ∃ b, e = .returned (.bool b) ∧ (b = true ↔ LastP L i p) ∧ Below W.heap.size W w'
set_option maxHeartbeats 16000000 in
set_option maxRecDepth 100000 in
theorem last_c (L : List BX) (A : Option Addr) (c : Nat) (W : World) (h : BsIn W A L) (hl : L.length ≤ 1000) (i : Nat) (x : BX) (hx : L[i]? = some x) :
    Calls Tryd.prog 26 #[.slice A L.length c, .int .i64 i] W (GotLs W L i x.1.prod) := by
  have hil := (List.getElem?_eq_some_iff.1 hx).1
  have HA := Lib.hid h
  obtain ⟨b, off, rfl, hbl, hca⟩ := h (by omega)
  obtain ⟨⟨z0, z1, z2, z3, z4, z5⟩, _⟩ := hca i x hx
  generalize x.1.prod = p at *
  have hi0 : (0 : Int) ≤ (i : Int) := by omega
  have hii : (i : Int) < (L.length : Int) := by omega
  have HC := Lib.hid (And.intro z2 hbl)
  clear hca hx h
  generalize hi6 : i * 6 = i6 at *
  by_cases hp : p < 0
  · have hno : ¬ LastP L i p := fun h => by have := h.1; omega
    have HN := Lib.hid hno
    clear hno
    go_enter Tryd.func26, Tryd.ntmps26
    go_wp2_with fail
    go_ret
    exact ⟨false, rfl, ⟨fun e => by (cases e), fun h => absurd h HN.out⟩, Below.refl _ _⟩
  have HP := Lib.hid (show 0 ≤ p by omega)
  go_enter Tryd.func26, Tryd.ntmps26
  go_wp2_with fail
  clear z0 z1 z2 z3 z4 z5 hbl hp
  go_loopw [5] (fun v wr => ∃ k : Nat, v = .int .i64 k ∧ i < k ∧ k ≤ L.length ∧ Below W.heap.size W wr ∧ ∀ n z, i < n → n < k → L[n]? = some z → z.1.prod ≠ p) (fun v _ => L.length - (intOf v).toNat)
  case atStart => exact ⟨i + 1, by go_num, by omega, by omega, Below.refl _ _, fun n z h1 h2 => by omega⟩
  case round =>
    obtain ⟨k, rfl, hik, hk, hbw, hno⟩ := hrel
    have HBW := Lib.hid hbw
    have HNO := Lib.hid hno
    by_cases hkl : k < L.length
    · obtain ⟨x, hx⟩ : ∃ x, L[k]? = some x := ⟨_, List.getElem?_eq_getElem hkl⟩
      obtain ⟨_, _, e9, hbl9, hca⟩ := (HA.out.below hbw) (by omega)
      obtain ⟨rfl, rfl⟩ : b = _ ∧ off = _ := by injection e9 with e9; injection e9 with e91 e92; exact ⟨e91, e92⟩
      obtain ⟨⟨z0, z1, z2, z3, z4, z5⟩, _⟩ := hca k x hx
      have i2 := (hbw.cell (p := ⟨b, off + i6 + 2, none⟩) HC.out.2).trans HC.out.1
      have HXX := Lib.hid hx
      have hki : (k : Int) < (L.length : Int) := by omega
      have hk0 : (0 : Int) ≤ (k : Int) := by omega
      obtain ⟨⟨base, span, prod, epoch, seq⟩, R, RA, rc⟩ := x
      dsimp only at *
      clear hca hx e9 hbw hno
      generalize hk6 : k * 6 = k6 at *
      by_cases hpp : prod = p
      · have hpe : (prod == p) = true := beq_iff_eq.2 hpp
        have hno : ¬ LastP L i p := fun h => h.2 k _ hik HXX.out hpp
        have HN := Lib.hid hno
        clear hno hpp
        go_wp2_with fail
        go_quiet (fail)
        go_wp2_with fail
        go_ret
        exact ⟨false, rfl, ⟨fun e => by (cases e), fun h => absurd h HN.out⟩, HBW.out.trans ⟨rfl, rfl, rfl, Nat.le_refl _, fun _ _ => rfl⟩⟩
      · have hpe : (prod == p) = false := beq_eq_false_iff_ne.2 hpp
        have HQ := Lib.hid hpp
        clear hpp
        go_wp2_with fail
        go_quiet (fail)
        go_wp2_with fail
        go_roundw
        case rel =>
          refine ⟨k + 1, by go_num, by omega, hkl, HBW.out.trans ⟨rfl, rfl, rfl, Nat.le_refl _, fun _ _ => rfl⟩, fun n z h1 h2 h3 => ?_⟩
          by_cases e : n < k
          · exact HNO.out n z h1 e h3
          · have e2 : n = k := by omega
            subst e2
            have e3 := HXX.out.symm.trans h3
            injection e3 with e3
            subst e3
            exact HQ.out
        case measure => simp [intOf]; omega
    · have hki : ¬ (k : Int) < (L.length : Int) := by omega
      have hyes : LastP L i p := ⟨HP.out, fun n z h1 h2 => hno n z h1 (by have := (List.getElem?_eq_some_iff.1 h2).1; omega) h2⟩
      have HY := Lib.hid hyes
      clear hbw hno hyes
      go_wp2_with fail
      go_ret
      exact ⟨true, rfl, ⟨fun _ => HY.out, fun _ => rfl⟩, HBW.out⟩
end Go.Proofs.YtdclkhbolmbnmaaDoor
