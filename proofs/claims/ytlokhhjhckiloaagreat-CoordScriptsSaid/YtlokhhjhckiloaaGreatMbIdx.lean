/- member: slices.IndexFunc over members, whatever the predicate; find. No condition. -/
import Derived.Test.YtlokhhjhckiloaaGreatMbRep
import Derived.Shelf.Abstract
namespace Go.Proofs.YtlokhhjhckiloaaGreat
open Go.RowKit
set_option linter.unusedVariables false
/-- The place of the first that is so, or -1. -/
def idxM (f : MD → Bool) (L : List MD) : Int := match L.findIdx? f with | some k => (k : Int) | none => -1
/-- What a predicate tells, in whatever memory comes behind w, but for the blocks S. -/
def PrdAt (g : Nat) (lb : Array Value) (f : MD → Bool) (S : Nat → Prop) (w : World) : Prop :=
  ∀ (x : MV) (W : World), Off S w W → Calls Tryz.prog g (#[mvV x] ++ lb) W (Good W (.bool (f x.d)))
theorem PrdAt.off {g : Nat} {lb : Array Value} {f : MD → Bool} {S T : Nat → Prop} {w w' : World} (h : PrdAt g lb f S w) (ho : Off T w w') (hs : ∀ k, k < w.heap.size → T k → S k) : PrdAt g lb f T w' := fun x W hb => h x W ((ho.mono hs).trans hb (fun k hk ht => hs k hk ht))
theorem PrdAt.later {g : Nat} {lb : Array Value} {f : MD → Bool} {S : Nat → Prop} {w w' : World} (h : PrdAt g lb f S w) (hb : Below w.heap.size w w') : PrdAt g lb f S w' := fun x W ho => h x W ((Off.of_below S hb).trans ho (fun k _ hk => hk))
def IsSl (v : Value) : Prop := ∃ A n c, v = .slice A n c
/-- Members in a row, wherever. -/
def RwIn (w : World) (A : Option Addr) (R : List MV) : Prop :=
  0 < R.length → ∃ b off, A = some ⟨b, off, none⟩ ∧ b < w.heap.size ∧ ∀ k x, R[k]? = some x → (w.cell? ⟨b, off + k * 5, none⟩ = some (.int .i64 x.d.n) ∧ w.cell? ⟨b, off + k * 5 + 1, none⟩ = some x.tv ∧ w.cell? ⟨b, off + k * 5 + 2, none⟩ = some (.int .i64 x.d.u) ∧ w.cell? ⟨b, off + k * 5 + 3, none⟩ = some (.bool x.d.j) ∧ w.cell? ⟨b, off + k * 5 + 4, none⟩ = some x.pv) ∧ IsSl x.tv ∧ IsSl x.pv
theorem findIdx_not {f : MD → Bool} {L : List MD} (h : ∀ x ∈ L, f x = false) : idxM f L = -1 := by
  unfold idxM
  rw [List.findIdx?_eq_none_iff.2 (fun x hx => by rw [h x hx])]
theorem findIdx_at {f : MD → Bool} {L : List MD} {k : Nat} {x : MD} (hk : L[k]? = some x) (h : f x = true) (hb : ∀ j y, j < k → L[j]? = some y → f y = false) : idxM f L = (k : Int) := by
  unfold idxM
  have hl := (List.getElem?_eq_some_iff.1 hk).1
  rw [List.findIdx?_eq_some_iff_getElem.2 ⟨hl, by rw [(List.getElem?_eq_some_iff.1 hk).2]; exact h, fun j hj => by
    have := hb j _ hj (List.getElem?_eq_getElem (by omega))
    simp [this]⟩]
structure IxAt (w : World) (f : MD → Bool) (L : List MD) (k : Nat) (wr : World) : Prop where
  le : k ≤ L.length
  no : ∀ j y, j < k → L[j]? = some y → f y = false
  bel : Below w.heap.size w wr
theorem rw_cells {w w' : World} {b off : Nat} {x : MV} {k : Nat} (hlt : b < w.heap.size) (h : w.cell? ⟨b, off + k * 5, none⟩ = some (.int .i64 x.d.n) ∧ w.cell? ⟨b, off + k * 5 + 1, none⟩ = some x.tv ∧ w.cell? ⟨b, off + k * 5 + 2, none⟩ = some (.int .i64 x.d.u) ∧ w.cell? ⟨b, off + k * 5 + 3, none⟩ = some (.bool x.d.j) ∧ w.cell? ⟨b, off + k * 5 + 4, none⟩ = some x.pv) (hb : Below w.heap.size w w') :
    w'.cell? ⟨b, off + k * 5, none⟩ = some (.int .i64 x.d.n) ∧ w'.cell? ⟨b, off + k * 5 + 1, none⟩ = some x.tv ∧ w'.cell? ⟨b, off + k * 5 + 2, none⟩ = some (.int .i64 x.d.u) ∧ w'.cell? ⟨b, off + k * 5 + 3, none⟩ = some (.bool x.d.j) ∧ w'.cell? ⟨b, off + k * 5 + 4, none⟩ = some x.pv :=
  ⟨(hb.cell (p := ⟨b, _, none⟩) hlt).trans h.1, (hb.cell (p := ⟨b, _, none⟩) hlt).trans h.2.1, (hb.cell (p := ⟨b, _, none⟩) hlt).trans h.2.2.1, (hb.cell (p := ⟨b, _, none⟩) hlt).trans h.2.2.2.1, (hb.cell (p := ⟨b, _, none⟩) hlt).trans h.2.2.2.2⟩
set_option maxHeartbeats 4000000 in
set_option maxRecDepth 100000 in
theorem index_c (g : Nat) (lb : Array Value) (f : MD → Bool) (eg : ∀ args w, (callFunc g args).run Tryz.prog w = .ok (.enter g args) w) (R : List MV) (A : Option Addr) (c : Nat) (W : World) (hR : RwIn W A R) (hl : R.length ≤ 1000000) (S : Nat → Prop) (hp : PrdAt g lb f S W) :
    Calls Tryz.prog 101 #[.slice A R.length c, .func (.func g) #[] lb] W (Good W (.int .i64 (idxM f (R.map MV.d)))) := by
  have HH := Lib.hid hR
  have HP := Lib.hid hp
  obtain ⟨L, hL⟩ : ∃ L, R.map MV.d = L := ⟨_, rfl⟩
  have hLl : L.length = R.length := by rw [← hL, List.length_map]
  have HL := Lib.hid hL
  have HLl := Lib.hid hLl
  rw [hL]
  clear hR hp hL hLl
  go_enter Tryz.func101, Tryz.ntmps101
  go_wp2
  go_loopw [5, 8] (fun i j wr => ∃ k : Nat, j = .int .i64 k ∧ IxAt W f L k wr) (fun _ j _ => R.length - (intOf j).toNat)
  case atStart => exact ⟨0, rfl, Nat.zero_le _, fun j y hj => absurd hj (Nat.not_lt_zero _), Below.refl _ _⟩
  case round =>
    obtain ⟨k, rfl, hA⟩ := hrel
    have hle := hA.le
    have hLl := HLl.out
    by_cases hk : k < R.length
    · obtain ⟨b, off, rfl, hlt, hc⟩ := HH.out (by omega)
      obtain ⟨x, hx⟩ : ∃ x, R[k]? = some x := ⟨_, List.getElem?_eq_getElem hk⟩
      obtain ⟨hcc, o1, o2⟩ := hc k x hx
      have hLx : L[k]? = some x.d := by rw [← HL.out, List.getElem?_map, hx]; rfl
      obtain ⟨c0, c1, c2, c3, c4⟩ := rw_cells hlt hcc hA.bel
      have hblt : b < wr.heap.size := Nat.lt_of_lt_of_le hlt hA.bel.size
      have hw := HP.out x wr (Off.of_below S hA.bel)
      have HA := Lib.hid hA
      have HX := Lib.hid hLx
      unfold mvV at hw
      obtain ⟨⟨n, T, u, jj, P⟩, tv, pv⟩ := x
      obtain ⟨tA, tn, tc, rfl⟩ := o1
      obtain ⟨pA, pn, pc, rfl⟩ := o2
      dsimp only at *
      clear hA hc hcc hx hLx hLl hlt
      cases hf : f ⟨n, T, u, jj, P⟩ with
      | true =>
        rw [hf] at hw
        have HF := Lib.hid hf
        clear hf
        go_wp2_with (go_at_fn g; (with_reducible refine hw.mono ?_); rintro e w1 ⟨rfl, hb1⟩)
        go_ret
        exact ⟨by rw [findIdx_at HX.out HF.out HA.out.no]; rfl, bjoin HA.out.bel hb1 rfl rfl⟩
      | false =>
        rw [hf] at hw
        have HF := Lib.hid hf
        clear hf
        go_wp2_with (go_at_fn g; (with_reducible refine hw.mono ?_); rintro e w1 ⟨rfl, hb1⟩)
        go_roundw
        case rel =>
          refine ⟨k + 1, by go_num, by have := HLl.out; omega, fun j y hj hy => ?_, bjoin HA.out.bel hb1 rfl rfl⟩
          by_cases e : j = k
          · subst e
            have hX := HX.out
            rw [hy] at hX
            injection hX with hX
            rw [hX]; exact HF.out
          · exact HA.out.no j y (by omega) hy
        case measure => simp [intOf]; omega
    · have HA := Lib.hid hA
      have hLl2 := hLl
      clear hA hLl
      go_wp2
      go_ret
      refine ⟨?_, HA.out.bel⟩
      rw [findIdx_not (fun y hy => by
        obtain ⟨j, hj, e⟩ := List.mem_iff_getElem.1 hy
        exact HA.out.no j y (by omega) (by rw [List.getElem?_eq_getElem hj, e]))]
      rfl

theorem GrIs.rw_in {w : World} {B p : Nat} {v : Value} {R : List MV} {G : GD} (h : GrIs w B p v R G) {A : Option Addr} {n c : Nat} (e : v = .slice A n c) : n = R.length ∧ RwIn w A R := by
  obtain ⟨A', c', e'⟩ := own_slice h.row
  rw [e] at e'
  injection e' with e1 e2 e3
  subst e1; subst e2; subst e3
  refine ⟨rfl, fun hp => ?_⟩
  obtain ⟨g, c', e1, hlt, _, _, _⟩ := h.at_ (List.getElem?_eq_getElem hp)
  rw [e] at e1
  injection e1 with e1 _ _
  subst e1
  refine ⟨g, 0, rfl, hlt, fun k x hk => ?_⟩
  obtain ⟨g', c'', e2, _, _, _, q0, q1, q2, q3, q4, _⟩ := h.at_ hk
  rw [e] at e2
  injection e2 with e2 _ _
  injection e2 with e2
  injection e2 with e2
  subst e2
  rw [Nat.zero_add]
  have hx := h.all x (List.mem_of_getElem? hk)
  refine ⟨⟨q0, q1, q2, q3, q4⟩, ?_, ?_⟩
  · obtain ⟨A1, c1, e1⟩ := own_slice hx.tr
    exact ⟨_, _, _, e1⟩
  · obtain ⟨A1, c1, e1⟩ := own_slice hx.pr
    exact ⟨_, _, _, e1⟩

theorem find1_p (b : Nat) (m : Int) (S : Nat → Prop) (W : World) (hc : W.cell? ⟨b, 0, none⟩ = some (.int .i64 m)) (hb : b < W.heap.size) (hS : ¬ S b) : PrdAt 102 #[.pointer (some ⟨b, 0, none⟩)] (fun x => decide (x.n = m)) S W := fun x w ho => by
  obtain ⟨⟨n, T, u, jj, P⟩, tv, pv⟩ := x
  have hB : Below w.heap.size w (w.alloc (.cells #[.int .i64 n, tv, .int .i64 u, .bool jj, pv] 95)) := (Below.refl _ _).alloc (Nat.le_refl _) _
  have c0 := (ho.cell (p := ⟨b, 0, none⟩) hb hS).trans hc
  have hlt : b < w.heap.size := Nat.lt_of_lt_of_le hb ho.size
  have c1 := (hB.cell (p := ⟨b, 0, none⟩) hlt).trans c0
  have HB := Lib.hid hB
  unfold mvV
  dsimp only
  clear hc hb ho c0 hB
  show Calls Tryz.prog 102 #[.agg #[.int .i64 n, tv, .int .i64 u, .bool jj, pv], .pointer (some ⟨b, 0, none⟩)] w _
  go_enter Tryz.func102, Tryz.ntmps102
  go_wp2
  go_ret
  exact ⟨by first | rfl | simp, HB.out⟩

theorem leave1_p (b : Nat) (m : Int) (S : Nat → Prop) (W : World) (hc : W.cell? ⟨b, 0, none⟩ = some (.int .i64 m)) (hb : b < W.heap.size) (hS : ¬ S b) : PrdAt 85 #[.pointer (some ⟨b, 0, none⟩)] (fun x => decide (x.n = m)) S W := fun x w ho => by
  obtain ⟨⟨n, T, u, jj, P⟩, tv, pv⟩ := x
  have hB : Below w.heap.size w (w.alloc (.cells #[.int .i64 n, tv, .int .i64 u, .bool jj, pv] 95)) := (Below.refl _ _).alloc (Nat.le_refl _) _
  have c0 := (ho.cell (p := ⟨b, 0, none⟩) hb hS).trans hc
  have hlt : b < w.heap.size := Nat.lt_of_lt_of_le hb ho.size
  have c1 := (hB.cell (p := ⟨b, 0, none⟩) hlt).trans c0
  have HB := Lib.hid hB
  unfold mvV
  dsimp only
  clear hc hb ho c0 hB
  show Calls Tryz.prog 85 #[.agg #[.int .i64 n, tv, .int .i64 u, .bool jj, pv], .pointer (some ⟨b, 0, none⟩)] w _
  go_enter Tryz.func85, Tryz.ntmps85
  go_wp2
  go_ret
  exact ⟨by first | rfl | simp, HB.out⟩

theorem tick2_p (b : Nat) (m : Int) (S : Nat → Prop) (W : World) (hc : W.cell? ⟨b, 0, none⟩ = some (.int .i64 m)) (hb : b < W.heap.size) (hS : ¬ S b) : PrdAt 83 #[.pointer (some ⟨b, 0, none⟩)] (fun x => decide (x.n = m)) S W := fun x w ho => by
  obtain ⟨⟨n, T, u, jj, P⟩, tv, pv⟩ := x
  have hB : Below w.heap.size w (w.alloc (.cells #[.int .i64 n, tv, .int .i64 u, .bool jj, pv] 95)) := (Below.refl _ _).alloc (Nat.le_refl _) _
  have c0 := (ho.cell (p := ⟨b, 0, none⟩) hb hS).trans hc
  have hlt : b < w.heap.size := Nat.lt_of_lt_of_le hb ho.size
  have c1 := (hB.cell (p := ⟨b, 0, none⟩) hlt).trans c0
  have HB := Lib.hid hB
  unfold mvV
  dsimp only
  clear hc hb ho c0 hB
  show Calls Tryz.prog 83 #[.agg #[.int .i64 n, tv, .int .i64 u, .bool jj, pv], .pointer (some ⟨b, 0, none⟩)] w _
  go_enter Tryz.func83, Tryz.ntmps83
  go_wp2
  go_ret
  exact ⟨by first | rfl | simp, HB.out⟩

theorem tick1_p (b : Nat) (m : Int) (S : Nat → Prop) (W : World) (hc : W.cell? ⟨b, 0, none⟩ = some (.int .i64 m)) (hb : b < W.heap.size) (hS : ¬ S b) : PrdAt 80 #[.pointer (some ⟨b, 0, none⟩)] (fun x => decide (x.u ≤ m)) S W := fun x w ho => by
  obtain ⟨⟨n, T, u, jj, P⟩, tv, pv⟩ := x
  have hB : Below w.heap.size w (w.alloc (.cells #[.int .i64 n, tv, .int .i64 u, .bool jj, pv] 95)) := (Below.refl _ _).alloc (Nat.le_refl _) _
  have c0 := (ho.cell (p := ⟨b, 0, none⟩) hb hS).trans hc
  have hlt : b < w.heap.size := Nat.lt_of_lt_of_le hb ho.size
  have c1 := (hB.cell (p := ⟨b, 0, none⟩) hlt).trans c0
  have HB := Lib.hid hB
  unfold mvV
  dsimp only
  clear hc hb ho c0 hB
  show Calls Tryz.prog 80 #[.agg #[.int .i64 n, tv, .int .i64 u, .bool jj, pv], .pointer (some ⟨b, 0, none⟩)] w _
  go_enter Tryz.func80, Tryz.ntmps80
  go_wp2
  go_ret
  exact ⟨by first | rfl | simp, HB.out⟩

theorem whole1_p (S : Nat → Prop) (W : World) : PrdAt 105 #[] (fun x => !x.j) S W := fun x w ho => by
  obtain ⟨⟨n, T, u, jj, P⟩, tv, pv⟩ := x
  have HB := Lib.hid ((Below.refl w.heap.size w).alloc (Nat.le_refl _) (.cells #[.int .i64 n, tv, .int .i64 u, .bool jj, pv] 95))
  unfold mvV
  dsimp only
  clear ho
  show Calls Tryz.prog 105 #[.agg #[.int .i64 n, tv, .int .i64 u, .bool jj, pv]] w _
  go_enter Tryz.func105, Tryz.ntmps105
  go_wp2
  go_ret
  exact ⟨rfl, HB.out⟩

theorem close1_p (S : Nat → Prop) (W : World) : PrdAt 112 #[] (fun x => !x.j) S W := fun x w ho => by
  obtain ⟨⟨n, T, u, jj, P⟩, tv, pv⟩ := x
  have HB := Lib.hid ((Below.refl w.heap.size w).alloc (Nat.le_refl _) (.cells #[.int .i64 n, tv, .int .i64 u, .bool jj, pv] 95))
  unfold mvV
  dsimp only
  clear ho
  show Calls Tryz.prog 112 #[.agg #[.int .i64 n, tv, .int .i64 u, .bool jj, pv]] w _
  go_enter Tryz.func112, Tryz.ntmps112
  go_wp2
  go_ret
  exact ⟨rfl, HB.out⟩
end Go.Proofs.YtlokhhjhckiloaaGreat
