/- topic: the document's table in memory; Find. No condition but that they are not too many. -/
import Derived.Test.YtnpfakjgocnkbaaTpSt
import Derived.Test.YtnpfakjgocnkbaaRowG
namespace Go.Proofs.Ytnpfakjgocnkbaa
open Go.RowKit
set_option linter.unusedVariables false
def onC (e : TE) : List Value := [.string (nmA e), .int .i64 e.id, .int .i64 e.parts]
def rowT (F : List TE) : List Value := F.flatMap onC
/-- The document's table in memory. -/
structure RtIs (w : World) (base p : Nat) (n : Int) (F : List TE) (A : Option Addr) (c : Nat) : Prop where
  box : Box w p 28 #[.int .i64 n, .slice A F.length c]
  row : w.ownsRow base 39 3 (.slice A F.length c) F.length (rowT F)
theorem RtIs.later {w w' : World} {base p c : Nat} {n : Int} {F : List TE} {A : Option Addr} (h : RtIs w base p n F A c) (hb : Below w.heap.size w w') : RtIs w' base p n F A c := ⟨h.box.later hb, own_below h.row hb⟩
theorem rowT_len (F : List TE) : (rowT F).length = F.length * 3 := by
  induction F with
  | nil => rfl
  | cons x l ih => show (_ :: _ :: _ :: rowT l).length = _; simp only [List.length_cons, ih]; omega
theorem rowT_app (F G : List TE) : rowT (F ++ G) = rowT F ++ rowT G := by unfold rowT; rw [List.flatMap_append]
theorem rowT_one (F : List TE) : ∀ y ∈ rowT F, y.oneCell' = true := by
  intro y hy
  obtain ⟨x, _, hs⟩ := List.mem_flatMap.1 hy
  unfold onC at hs
  simp at hs
  rcases hs with rfl | rfl | rfl <;> rfl
theorem rowT_at : ∀ {F : List TE} {j : Nat} {x : TE}, F[j]? = some x → (rowT F)[j * 3]? = some (.string (nmA x)) ∧ (rowT F)[j * 3 + 1]? = some (.int .i64 x.id) ∧ (rowT F)[j * 3 + 2]? = some (.int .i64 x.parts)
  | [], j, e, h => by cases h
  | x :: l, 0, e, h => by
    have : x = e := by simpa using h
    subst this
    exact ⟨rfl, rfl, rfl⟩
  | x :: l, j + 1, e, h => by
    have ih := rowT_at (F := l) (j := j) (x := e) (by simpa using h)
    have hl : (onC x).length = 3 := rfl
    show (onC x ++ rowT l)[(j + 1) * 3]? = _ ∧ (onC x ++ rowT l)[(j + 1) * 3 + 1]? = _ ∧ (onC x ++ rowT l)[(j + 1) * 3 + 2]? = _
    rw [List.getElem?_append_right (by rw [hl]; omega), List.getElem?_append_right (by rw [hl]; omega), List.getElem?_append_right (by rw [hl]; omega), hl]
    rw [show (j + 1) * 3 - 3 = j * 3 by omega, show (j + 1) * 3 + 1 - 3 = j * 3 + 1 by omega, show (j + 1) * 3 + 2 - 3 = j * 3 + 2 by omega]
    exact ih
theorem rt_cell {w : World} {base c n : Nat} {F : List TE} {A : Option Addr} (hn : F.length = n) (hrow : w.ownsRow base 39 3 (.slice A n c) n (rowT F)) {j : Nat} {x : TE} (hj : F[j]? = some x) :
    ∃ g, A = some ⟨g, 0, none⟩ ∧ base ≤ g ∧ w.cell? ⟨g, j * 3, none⟩ = some (.string (nmA x)) ∧ w.cell? ⟨g, j * 3 + 1, none⟩ = some (.int .i64 x.id) ∧ w.cell? ⟨g, j * 3 + 2, none⟩ = some (.int .i64 x.parts) ∧ g < w.heap.size ∧ n ≤ c := by
  have hl : j < n := by rw [← hn]; exact (List.getElem?_eq_some_iff.1 hj).1
  have hrow' := hrow
  rcases hrow'.2 with ⟨hv, h0⟩ | ⟨g, cap, cur, hv, hg, hh, h4, h5, h6, h7⟩
  · omega
  · injection hv with e1 e2 e3
    subst e1 e3
    obtain ⟨k1, k2, k3⟩ := rowT_at hj
    exact ⟨g, rfl, hg, (hrow.cellAt (j * 3) (by omega)).trans k1, (hrow.cellAt (j * 3 + 1) (by omega)).trans k2, (hrow.cellAt (j * 3 + 2) (by omega)).trans k3, lt_of_there hh, h4⟩
/-- The place of a name's topic, -1 of none. -/
def findI (F : List TE) (s : List UInt8) : Int := match F.findIdx? (fun e => e.name == s) with | some i => (i : Int) | none => -1
theorem nm_eq (e : TE) (s : ByteArray) : ((nmA e).toList == s.toList) = (e.name == s.data.toList) := by rw [ByteArray.toList_eq, ByteArray.toList_eq, nmA_list]
set_option maxHeartbeats 4000000 in
set_option maxRecDepth 100000 in
theorem rfind_c (n : Int) (F : List TE) (A : Option Addr) (c base p : Nat) (s : ByteArray) (W : World) (h : RtIs W base p n F A c) (hl : F.length ≤ 1000000) : Calls Try.prog 14 #[.pointer (some ⟨p, 0, none⟩), .string s] W (fun e w' => e = .returned (.int .i64 (findI F s.data.toList)) ∧ W = w') := by
  have c1 := (h.box.cell 1).trans (show _ = some (Value.slice A F.length c) from rfl)
  have H := Lib.hid h
  obtain ⟨r, hr⟩ : ∃ r, findI F s.data.toList = r := ⟨_, rfl⟩
  have HR : Hid (match F.findIdx? (fun e => e.name == s.data.toList) with | some i => r = (i : Int) | none => r = -1) := Lib.hid (by
    rw [← hr]
    unfold findI
    split <;> rfl)
  rw [hr]
  clear h hr
  go_enter Try.func14, Try.ntmps14
  go_wp2_with fail
  go_loop [5] (fun i => ∃ k : Nat, i = .int .i64 k ∧ k ≤ F.length ∧ ∀ j, j < k → ∀ x, F[j]? = some x → (x.name == s.data.toList) = false) (fun i => F.length - (intOf i).toNat)
  case atStart => exact ⟨0, rfl, Nat.zero_le _, fun j hj => by omega⟩
  case round =>
    obtain ⟨k, rfl, hk, hno⟩ := hrel
    have HNO := Lib.hid hno
    clear hno
    by_cases hkl : k < F.length
    · obtain ⟨x, hx⟩ : ∃ x, F[k]? = some x := ⟨_, List.getElem?_eq_getElem hkl⟩
      obtain ⟨g, rfl, _, z0, z1, z2, hg, hc⟩ := rt_cell rfl H.out.row hx
      have hK0 : (0 : Int) ≤ (k : Int) := by omega
      have hK1 : (k : Int) < (F.length : Int) := by omega
      have HX := Lib.hid hx
      have hz := nm_eq x s
      cases he : (x.name == s.data.toList) with
      | true =>
        rw [he] at hz
        have HE := Lib.hid he
        clear hx he
        go_wp2_with fail
        go_ret
        have hfi : F.findIdx? (fun e => e.name == s.data.toList) = some k := by
          rw [List.findIdx?_eq_some_iff_getElem]
          refine ⟨hkl, ?_, fun j hj => ?_⟩
          · have : F[k] = x := (List.getElem?_eq_some_iff.1 HX.out).2
            rw [this]
            exact HE.out
          · have := HNO.out j hj F[j] (List.getElem?_eq_getElem (by omega))
            rw [this]; decide
        have := HR.out
        rw [hfi] at this
        exact ⟨by rw [this]; rfl, rfl⟩
      | false =>
        rw [he] at hz
        have HE := Lib.hid he
        clear hx he
        go_wp2_with fail
        go_round
        case rel => exact ⟨k + 1, by go_num, hkl, fun j hj y hy => by
          rcases Nat.lt_succ_iff_lt_or_eq.1 hj with h | h
          · exact HNO.out j h y hy
          · subst h
            have := HX.out
            rw [hy] at this
            injection this with this
            rw [this]; exact HE.out⟩
        case measure => simp [intOf]; omega
    · have hke : ¬ (k : Int) < (F.length : Int) := by omega
      go_wp2_with fail
      go_ret
      have hfi : F.findIdx? (fun e => e.name == s.data.toList) = none := by
        rw [List.findIdx?_eq_none_iff]
        intro x hx
        obtain ⟨j, hj⟩ := List.getElem?_of_mem hx
        exact HNO.out j (by have := (List.getElem?_eq_some_iff.1 hj).1; omega) x hj
      have := HR.out
      rw [hfi] at this
      exact ⟨by rw [this]; rfl, rfl⟩
end Go.Proofs.Ytnpfakjgocnkbaa
