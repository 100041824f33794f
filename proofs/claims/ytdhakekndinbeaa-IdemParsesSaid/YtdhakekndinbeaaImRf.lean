/- idem: the document's Producers in memory; find, Epoch. No condition but that they are not too many. -/
import Derived.Test.YtdhakekndinbeaaImFn
import Derived.Deep.QuietTactic
import Derived.BigQuiet
namespace Go.Proofs.Ytdhakekndinbeaa
open Go.RowKit
set_option linter.unusedVariables false
/-- A window as told: a slice that is read. -/
def SnAt (w : World) (v : Value) (L : List SN) : Prop :=
  (v = .slice none 0 0 ∧ L = []) ∨ ∃ (g o c : Nat) (cur : Array Value), v = .slice (some ⟨g, o, none⟩) L.length c ∧ w.heap[g]? = some (.cells cur 75 (0, 0)) ∧ L.length ≤ c ∧ ∀ j s, L[j]? = some s → cur[o + j * 3]? = some (.int .i64 s.1) ∧ cur[o + j * 3 + 1]? = some (.int .i64 s.2.1) ∧ cur[o + j * 3 + 2]? = some (.int .i64 s.2.2)
/-- One of those, and its window's slice. -/
abbrev RK := GH × Value
def rkC (x : RK) : List Value := [.int .i64 x.1.1, .int .i64 x.1.2.1, x.2]
def rkV (x : RK) : Value := .agg #[.int .i64 x.1.1, .int .i64 x.1.2.1, x.2]
def rowK (K : List RK) : List Value := K.flatMap rkC
/-- The document's Producers in memory. -/
structure RpIs (w : World) (base p : Nat) (K : List RK) (A : Option Addr) (c : Nat) : Prop where
  box : Box w p 28 #[.slice A K.length c]
  row : w.ownsRow base 73 3 (.slice A K.length c) K.length (rowK K)
  sn : ∀ x ∈ K, SnAt w x.2 x.1.2.2
theorem SnAt.slc {w : World} {v : Value} {L : List SN} (h : SnAt w v L) : ∃ A c, v = .slice A L.length c := by
  rcases h with ⟨rfl, rfl⟩ | ⟨g, o, c, cur, rfl, _⟩
  · exact ⟨none, 0, rfl⟩
  · exact ⟨_, _, rfl⟩
theorem SnAt.off {w w' : World} {v : Value} {L : List SN} (h : SnAt w v L) {S : Nat → Prop} (ho : Off S w w') (hS : ∀ g cur, w.heap[g]? = some (.cells cur 75 (0, 0)) → ¬ S g) : SnAt w' v L := by
  rcases h with h | ⟨g, o, c, cur, h1, h2, h3⟩
  · exact .inl h
  · exact .inr ⟨g, o, c, cur, h1, (ho.block g (lt_of_there h2) (hS g cur h2)).trans h2, h3⟩
theorem SnAt.later {w w' : World} {v : Value} {L : List SN} (h : SnAt w v L) (hb : Below w.heap.size w w') : SnAt w' v L := h.off (Off.of_below (fun _ => False) hb) (fun _ _ _ x => x)
theorem SnAt.cell {w : World} {A : Option Addr} {n c : Nat} {L : List SN} (h : SnAt w (.slice A n c) L) {j : Nat} {s : SN} (hj : L[j]? = some s) : ∃ g o, A = some ⟨g, o, none⟩ ∧ n ≤ c ∧ g < w.heap.size ∧ w.cell? ⟨g, o + j * 3, none⟩ = some (.int .i64 s.1) ∧ w.cell? ⟨g, o + j * 3 + 1, none⟩ = some (.int .i64 s.2.1) ∧ w.cell? ⟨g, o + j * 3 + 2, none⟩ = some (.int .i64 s.2.2) := by
  rcases h with ⟨_, rfl⟩ | ⟨g, o, c', cur, h1, h2, h3, h4⟩
  · cases hj
  · injection h1 with e1 e2 e3
    subst e1 e2 e3
    obtain ⟨a, b, d⟩ := h4 j s hj
    refine ⟨g, o, rfl, h3, lt_of_there h2, ?_, ?_, ?_⟩ <;> (unfold World.cell?; simp only [h2]; simp_all)
theorem RpIs.later {w w' : World} {base p c : Nat} {K : List RK} {A : Option Addr} (h : RpIs w base p K A c) (hb : Below w.heap.size w w') : RpIs w' base p K A c := ⟨h.box.later hb, own_below h.row hb, fun x hx => (h.sn x hx).later hb⟩
theorem rowK_at : ∀ {K : List RK} {j : Nat} {x : RK}, K[j]? = some x → (rowK K)[j * 3]? = some (.int .i64 x.1.1) ∧ (rowK K)[j * 3 + 1]? = some (.int .i64 x.1.2.1) ∧ (rowK K)[j * 3 + 2]? = some x.2
  | [], j, e, h => by cases h
  | x :: l, 0, e, h => by
    have : x = e := by simpa using h
    subst this
    exact ⟨rfl, rfl, rfl⟩
  | x :: l, j + 1, e, h => by
    have ih := rowK_at (K := l) (j := j) (x := e) (by simpa using h)
    have hl : (rkC x).length = 3 := rfl
    show (rkC x ++ rowK l)[(j + 1) * 3]? = _ ∧ (rkC x ++ rowK l)[(j + 1) * 3 + 1]? = _ ∧ (rkC x ++ rowK l)[(j + 1) * 3 + 2]? = _
    rw [List.getElem?_append_right (by rw [hl]; omega), List.getElem?_append_right (by rw [hl]; omega), List.getElem?_append_right (by rw [hl]; omega), hl]
    rw [show (j + 1) * 3 - 3 = j * 3 by omega, show (j + 1) * 3 + 1 - 3 = j * 3 + 1 by omega, show (j + 1) * 3 + 2 - 3 = j * 3 + 2 by omega]
    exact ih
theorem rowK_len (K : List RK) : (rowK K).length = K.length * 3 := by
  induction K with
  | nil => rfl
  | cons x l ih => show (rkC x ++ rowK l).length = _; rw [List.length_append, ih, List.length_cons]; show 3 + _ = _; omega
theorem rk_cell {w : World} {base c : Nat} {K : List RK} {A : Option Addr} (hrow : w.ownsRow base 73 3 (.slice A K.length c) K.length (rowK K)) {j : Nat} {x : RK} (hj : K[j]? = some x) :
    ∃ g, A = some ⟨g, 0, none⟩ ∧ base ≤ g ∧ w.cell? ⟨g, j * 3, none⟩ = some (.int .i64 x.1.1) ∧ w.cell? ⟨g, j * 3 + 1, none⟩ = some (.int .i64 x.1.2.1) ∧ w.cell? ⟨g, j * 3 + 2, none⟩ = some x.2 ∧ g < w.heap.size ∧ K.length ≤ c := by
  have hl : j < K.length := (List.getElem?_eq_some_iff.1 hj).1
  have hrow' := hrow
  rcases hrow'.2 with ⟨hv, h0⟩ | ⟨g, cap, cur, hv, hg, hh, h4, h5, h6, h7⟩
  · omega
  · injection hv with e1 e2 e3
    subst e1 e3
    obtain ⟨k1, k2, k3⟩ := rowK_at hj
    exact ⟨g, rfl, hg, (hrow.cellAt (j * 3) (by omega)).trans k1, (hrow.cellAt (j * 3 + 1) (by omega)).trans k2, (hrow.cellAt (j * 3 + 2) (by omega)).trans k3, lt_of_there hh, h4⟩
/-- The place of a number's one, -1 of none. -/
def findK (K : List RK) (n : Int) : Int := match K.findIdx? (fun x => decide (x.1.1 = n)) with | some i => (i : Int) | none => -1
set_option maxHeartbeats 4000000 in
set_option maxRecDepth 100000 in
theorem rfind_c (K : List RK) (A : Option Addr) (c base p : Nat) (n : Int) (W : World) (h : RpIs W base p K A c) (hl : K.length ≤ 1000000) : Calls Try.prog 29 #[.pointer (some ⟨p, 0, none⟩), .int .i64 n] W (fun e w' => e = .returned (.int .i64 (findK K n)) ∧ W = w') := by
  have c0 := (h.box.cell 0).trans (show _ = some (Value.slice A K.length c) from rfl)
  have H := Lib.hid h
  obtain ⟨r, hr⟩ : ∃ r, findK K n = r := ⟨_, rfl⟩
  have HR : Hid (match K.findIdx? (fun x => decide (x.1.1 = n)) with | some i => r = (i : Int) | none => r = -1) := Lib.hid (by
    rw [← hr]
    unfold findK
    split <;> rfl)
  rw [hr]
  clear h hr
  go_enter Try.func29, Try.ntmps29
  go_wp2_with fail
  go_loop [5] (fun i => ∃ k : Nat, i = .int .i64 k ∧ k ≤ K.length ∧ ∀ j, j < k → ∀ x, K[j]? = some x → x.1.1 ≠ n) (fun i => K.length - (intOf i).toNat)
  case atStart => exact ⟨0, rfl, Nat.zero_le _, fun j hj => by omega⟩
  case round =>
    obtain ⟨k, rfl, hk, hno⟩ := hrel
    have HNO := Lib.hid hno
    clear hno
    by_cases hkl : k < K.length
    · obtain ⟨x, hx⟩ : ∃ x, K[k]? = some x := ⟨_, List.getElem?_eq_getElem hkl⟩
      obtain ⟨g, rfl, _, z0, z1, z2, hg, hc⟩ := rk_cell H.out.row hx
      have hK0 : (0 : Int) ≤ (k : Int) := by omega
      have hK1 : (k : Int) < (K.length : Int) := by omega
      have HX := Lib.hid hx
      by_cases he : x.1.1 = n
      · have hz : (x.1.1 == n) = true := by rw [he]; exact beq_self_eq_true n
        have HE := Lib.hid he
        clear hx he
        go_wp2_with fail
        go_ret
        have hfi : K.findIdx? (fun x => decide (x.1.1 = n)) = some k := by
          rw [List.findIdx?_eq_some_iff_getElem]
          refine ⟨hkl, ?_, fun j hj => ?_⟩
          · have : K[k] = x := (List.getElem?_eq_some_iff.1 HX.out).2
            rw [this]
            simpa using HE.out
          · have := HNO.out j hj K[j] (List.getElem?_eq_getElem (by omega))
            simpa using this
        have := HR.out
        rw [hfi] at this
        exact ⟨by rw [this]; rfl, rfl⟩
      · have hz : (x.1.1 == n) = false := by simp [he]
        have HE := Lib.hid he
        clear hx he
        go_wp2_with fail
        go_round
        case rel => exact ⟨k + 1, by go_num, hkl, fun j hj y hy => by
          rcases Nat.lt_succ_iff_lt_or_eq.1 hj with h | h
          · exact HNO.out j h y hy
          · subst h
            have := HX.out
            rw [hy] at this
            injection this with this
            rw [this]; exact HE.out⟩
        case measure => simp [intOf]; omega
    · have hke : ¬ (k : Int) < (K.length : Int) := by omega
      go_wp2_with fail
      go_ret
      have hfi : K.findIdx? (fun x => decide (x.1.1 = n)) = none := by
        rw [List.findIdx?_eq_none_iff]
        intro x hx
        obtain ⟨j, hj⟩ := List.getElem?_of_mem hx
        have := HNO.out j (by have := (List.getElem?_eq_some_iff.1 hj).1; omega) x hj
        simpa using this
      have := HR.out
      rw [hfi] at this
      exact ⟨by rw [this]; rfl, rfl⟩
end Go.Proofs.Ytdhakekndinbeaa
