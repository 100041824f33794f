/- The document's SameAll, and Same of batches, at two readings of one list: true; by contracts. -/
import Derived.Test.YtmnmgbbdjpfonaaDoorMtSame
import Derived.Test.YtmnmgbbdjpfonaaDoorMtRs
import Derived.Deep.RegionHeld3
namespace Go.Proofs.YtmnmgbbdjpfonaaDoor
open Go.RowKit
set_option linter.unusedVariables false
/-- The facts that a round of SameAll reads. -/
def SmS (W : World) (b o b' o' : Nat) (r : Rec) (A B : Option Addr) (c d : Nat) (w : World) : Prop :=
  RxAt w b o (r, A, c) ∧ RxAt w b' o' (r, B, d) ∧ b < w.heap.size ∧ b' < w.heap.size ∧ HIn w A r.heads ∧ HIn w B r.heads ∧ Below W.heap.size W w
theorem SmS.later {W w w' : World} {b o b' o' : Nat} {r : Rec} {A B : Option Addr} {c d : Nat} (h : SmS W b o b' o' r A B c d w) (hb : Below w.heap.size w w') : SmS W b o b' o' r A B c d w' := by
  obtain ⟨h1, h2, h3, h4, h5, h6, h7⟩ := h
  exact ⟨h1.below h3 hb, h2.below h4 hb, Nat.lt_of_lt_of_le h3 hb.size, Nat.lt_of_lt_of_le h4 hb.size, h5.below hb, h6.below hb, h7.trans (hb.mono h7.size)⟩
theorem SmS.out (W : World) (b o b' o' : Nat) (place time : Int) (bare gone : Bool) (key value : ByteArray) (heads : List Hd) (A B : Option Addr) (c d : Nat) (w : World) : SmS W b o b' o' ⟨place, time, bare, key, gone, value, heads⟩ A B c d w ↔
    (w.cell? ⟨b, o, none⟩ = some (.int .i64 place) ∧ w.cell? ⟨b, o + 1, none⟩ = some (.int .i64 time) ∧ w.cell? ⟨b, o + 2, none⟩ = some (.bool bare) ∧ w.cell? ⟨b, o + 3, none⟩ = some (.string key) ∧ w.cell? ⟨b, o + 4, none⟩ = some (.bool gone) ∧ w.cell? ⟨b, o + 5, none⟩ = some (.string value) ∧ w.cell? ⟨b, o + 6, none⟩ = some (.slice A heads.length c) ∧
     w.cell? ⟨b', o', none⟩ = some (.int .i64 place) ∧ w.cell? ⟨b', o' + 1, none⟩ = some (.int .i64 time) ∧ w.cell? ⟨b', o' + 2, none⟩ = some (.bool bare) ∧ w.cell? ⟨b', o' + 3, none⟩ = some (.string key) ∧ w.cell? ⟨b', o' + 4, none⟩ = some (.bool gone) ∧ w.cell? ⟨b', o' + 5, none⟩ = some (.string value) ∧ w.cell? ⟨b', o' + 6, none⟩ = some (.slice B heads.length d) ∧
     b < w.heap.size ∧ b' < w.heap.size ∧ HIn w A heads ∧ HIn w B heads ∧ Below W.heap.size W w) := by
  unfold SmS RxAt
  simp only [and_assoc]
set_option maxHeartbeats 8000000 in
set_option maxRecDepth 100000 in
theorem rsameAll_c (L M : List RX) (A B : Option Addr) (c d : Nat) (W : World) (hA : RsIn W A L) (hB : RsIn W B M) (he : L.map (·.1) = M.map (·.1)) (h50 : L.length ≤ 1000) (hh : ∀ x ∈ L, x.1.heads.length ≤ 1000) :
    Calls Tryd.prog 15 #[.slice A L.length c, .slice B M.length d] W (Good W (.bool true)) := by
  have hlen : M.length = L.length := by have := congrArg List.length he; simpa using this.symm
  rw [hlen]
  have HAB := Lib.hid (And.intro hA hB)
  have HE := Lib.hid (And.intro he hlen)
  clear hA hB he hlen
  go_enter Tryd.func15, Tryd.ntmps15
  go_wp2
  go_loopw [5] (fun i wr => ∃ k : Nat, i = .int .i64 k ∧ k ≤ L.length ∧ Below W.heap.size W wr) (fun i _ => L.length - (intOf i).toNat)
  case atStart => exact ⟨0, rfl, Nat.zero_le _, Below.refl _ _⟩
  case round =>
    obtain ⟨k, rfl, hkl, hS⟩ := hrel
    by_cases hk : k < L.length
    · obtain ⟨x, hx⟩ : ∃ x, L[k]? = some x := ⟨_, List.getElem?_eq_getElem hk⟩
      obtain ⟨y, hy⟩ : ∃ y, M[k]? = some y := ⟨_, List.getElem?_eq_getElem (by have := HE.out.2; omega)⟩
      have hxy : x.1 = y.1 := by
        have := congrArg (fun l => l[k]?) HE.out.1
        simpa [List.getElem?_map, hx, hy] using this
      obtain ⟨b, off, rfl, hbl, hca⟩ := (HAB.out.1.below hS) (by omega)
      obtain ⟨b', off', rfl, hbl', hcb⟩ := (HAB.out.2.below hS) (by have := HE.out.2; omega)
      obtain ⟨qa, ra⟩ := hca k x hx
      obtain ⟨qb, rb⟩ := hcb k y hy
      have hxl := hh x (List.mem_of_getElem? hx)
      obtain ⟨r, A1, c1⟩ := x
      obtain ⟨r', B1, d1⟩ := y
      obtain rfl : r = r' := hxy
      have hs : SmS W b (off + k * 7) b' (off' + k * 7) r A1 B1 c1 d1 wr := ⟨qa, qb, hbl, hbl', ra.heads, rb.heads, hS⟩
      have cs := fun w (h1 : HIn w A1 r.heads) (h2 : HIn w B1 r.heads) => rsame_c r A1 B1 c1 d1 w hxl h1 h2
      have hstep := fun w w' (h : SmS W b (off + k * 7) b' (off' + k * 7) r A1 B1 c1 d1 w) hb => SmS.later (w' := w') h hb
      obtain ⟨place, time, bare, key, gone, value, heads⟩ := r
      unfold recV recC at cs
      simp only at cs
      simp only [SmS.out] at hs hstep
      have HK := Lib.hid hk
      have hki : (k : Int) < (L.length : Int) := by omega
      have hk0 : (0 : Int) ≤ (k : Int) := by omega
      clear hca hcb qa qb ra rb hx hy hxl hh hbl hbl' hS
      obtain ⟨x0, x1, x2, x3, x4, x5, x6, y0, y1, y2, y3, y4, y5, y6, hs5⟩ := id hs
      go_wp2_with fail
      go_region_held3 (fun w => w.cell? ⟨b, off + k * 7, none⟩ = some (.int .i64 place) ∧ w.cell? ⟨b, off + k * 7 + 1, none⟩ = some (.int .i64 time) ∧ w.cell? ⟨b, off + k * 7 + 2, none⟩ = some (.bool bare) ∧ w.cell? ⟨b, off + k * 7 + 3, none⟩ = some (.string key) ∧ w.cell? ⟨b, off + k * 7 + 4, none⟩ = some (.bool gone) ∧ w.cell? ⟨b, off + k * 7 + 5, none⟩ = some (.string value) ∧ w.cell? ⟨b, off + k * 7 + 6, none⟩ = some (.slice A1 heads.length c1) ∧
     w.cell? ⟨b', off' + k * 7, none⟩ = some (.int .i64 place) ∧ w.cell? ⟨b', off' + k * 7 + 1, none⟩ = some (.int .i64 time) ∧ w.cell? ⟨b', off' + k * 7 + 2, none⟩ = some (.bool bare) ∧ w.cell? ⟨b', off' + k * 7 + 3, none⟩ = some (.string key) ∧ w.cell? ⟨b', off' + k * 7 + 4, none⟩ = some (.bool gone) ∧ w.cell? ⟨b', off' + k * 7 + 5, none⟩ = some (.string value) ∧ w.cell? ⟨b', off' + k * 7 + 6, none⟩ = some (.slice B1 heads.length d1) ∧
     b < w.heap.size ∧ b' < w.heap.size ∧ HIn w A1 heads ∧ HIn w B1 heads ∧ Below W.heap.size W w)
        (first | exact hstep _ _ hs ((Below.refl _ _).drew) | exact hstep _ _ (by assumption) (by assumption))
        (first | ((with_reducible refine (cs _ (by first | assumption | exact hs5.2.2.1.below ((Below.refl _ _).drew)) (by first | assumption | exact hs5.2.2.2.1.below ((Below.refl _ _).drew))).mono ?_); rintro e w2 ⟨rfl, hb2⟩))
      all_goals go_wp2_with fail
      all_goals go_roundw
      case rel => exact ⟨k + 1, by go_num, HK.out, hs5.2.2.2.2.trans ((((Below.refl _ _).drew).trans hb2).mono (by have := hs5.2.2.2.2.size; simpa using this))⟩
      case measure => simp [intOf]; omega
    · go_wp2
      go_ret
      exact ⟨rfl, hS⟩
end Go.Proofs.YtmnmgbbdjpfonaaDoor
