/- Merged texts. What each proves is told at its head. -/
import Derived.Test.YtjnphajkoopkgaaGreatDoorBatNum
import Derived.Test.YtjnphajkoopkgaaGreatDoorUB
/- Records of a batch in memory; whether their places may be; the document's who. No condition. -/
namespace Go.Proofs.YtjnphajkoopkgaaGreatDoor
open Go.RowKit
set_option linter.unusedVariables false
/-- A record and where its headers lie. -/
abbrev RX := Rec × Option Addr × Nat
/-- A record's seven cells. -/
def RxAt (w : World) (b o : Nat) (x : RX) : Prop :=
  w.cell? ⟨b, o, none⟩ = some (.int .i64 x.1.place) ∧ w.cell? ⟨b, o + 1, none⟩ = some (.int .i64 x.1.time) ∧ w.cell? ⟨b, o + 2, none⟩ = some (.bool x.1.bare) ∧ w.cell? ⟨b, o + 3, none⟩ = some (.string x.1.key) ∧
    w.cell? ⟨b, o + 4, none⟩ = some (.bool x.1.gone) ∧ w.cell? ⟨b, o + 5, none⟩ = some (.string x.1.value) ∧ w.cell? ⟨b, o + 6, none⟩ = some (.slice x.2.1 x.1.heads.length x.2.2)
/-- A list of records in memory. -/
def RsIn (w : World) (A : Option Addr) (L : List RX) : Prop :=
  0 < L.length → ∃ b off, A = some ⟨b, off, none⟩ ∧ b < w.heap.size ∧ ∀ j x, L[j]? = some x → RxAt w b (off + j * 7) x ∧ RIn w x.1 x.2.1 x.2.2
theorem RxAt.below {w w' : World} {b o : Nat} {x : RX} (h : RxAt w b o x) (hl : b < w.heap.size) (hb : Below w.heap.size w w') : RxAt w' b o x := by
  obtain ⟨h0, h1, h2, h3, h4, h5, h6⟩ := h
  have c := fun i => hb.cell (p := ⟨b, i, none⟩) hl
  exact ⟨(c _).trans h0, (c _).trans h1, (c _).trans h2, (c _).trans h3, (c _).trans h4, (c _).trans h5, (c _).trans h6⟩
theorem RsIn.below {w w' : World} {A : Option Addr} {L : List RX} (h : RsIn w A L) (hb : Below w.heap.size w w') : RsIn w' A L := fun hp => by
  obtain ⟨b, off, e, hlt, hc⟩ := h hp
  exact ⟨b, off, e, Nat.lt_of_lt_of_le hlt hb.size, fun j x hx => ⟨(hc j x hx).1.below hlt hb, (hc j x hx).2.below hb⟩⟩
/-- Whether places rise and are below the span. -/
def placedL (span : Int) : Int → List RX → Bool
  | _, [] => true
  | last, x :: r => decide (last < x.1.place) && decide (x.1.place < span) && placedL span x.1.place r
def plB (span : Int) (L : List RX) : Bool := decide (L.length ≤ 50) && placedL span (-1) L
theorem placed_drop {span last : Int} {L : List RX} {j : Nat} {x : RX} (h : L[j]? = some x) : placedL span last (L.drop j) = (decide (last < x.1.place) && decide (x.1.place < span) && placedL span x.1.place (L.drop (j + 1))) := by
  obtain ⟨hj, hx⟩ := List.getElem?_eq_some_iff.1 h
  rw [List.drop_eq_getElem_cons hj, hx]
  rfl
set_option maxHeartbeats 8000000 in
set_option maxRecDepth 100000 in
theorem placed_c (b : BN) (A : Option Addr) (c : Nat) (L : List RX) (W : World) (h : RsIn W A L) (hlen : L.length ≤ 140737488351232) : Calls Tryz.prog 105 #[.agg (bnC b (.slice A L.length c))] W (fun e w' => e = .returned (.bool (plB b.span L)) ∧ Below W.heap.size W w') := by
  obtain ⟨base, span, prod, epoch, seq⟩ := b
  have hb0 : Below W.heap.size W (W.alloc (.cells #[.int .i64 base, .int .i64 span, .int .i64 prod, .int .i64 epoch, .int .i64 seq, .slice A L.length c] 44)) := (Below.refl _ W).alloc (Nat.le_refl _) _
  have hbx := Box.new W 44 #[.int .i64 base, .int .i64 span, .int .i64 prod, .int .i64 epoch, .int .i64 seq, .slice A L.length c]
  have y5 := (hbx.cell 5).trans rfl
  simp only [List.getElem?_toArray, List.getElem?_cons_zero, List.getElem?_cons_succ] at y5
  have HX := Lib.hid (And.intro hb0 hbx)
  clear hb0 hbx
  unfold bnC
  simp only
  obtain ⟨res, hres⟩ : ∃ res, plB span L = res := ⟨_, rfl⟩
  rw [hres]
  by_cases h50 : 50 < L.length
  · have h50' : (50 : Int) < (L.length : Int) := by omega
    have hr : res = false := by rw [← hres]; unfold plB; rw [decide_eq_false (by omega)]; rfl
    subst hr
    go_enter Tryz.func105, Tryz.ntmps105
    go_wp2
    go_ret
    exact ⟨rfl, HX.out.1⟩
  · have h50' : ¬ (50 : Int) < (L.length : Int) := by omega
    have hpl : placedL span (-1) (L.drop 0) = res := by rw [← hres, List.drop_zero]; unfold plB; rw [decide_eq_true (by omega)]; rfl
    have HPL := Lib.hid hpl
    clear hpl hres
    go_enter Tryz.func105, Tryz.ntmps105
    go_wp2_with fail
    generalize hW0 : (W.alloc (.cells #[.int .i64 base, .int .i64 span, .int .i64 prod, .int .i64 epoch, .int .i64 seq, .slice A L.length c] 44)) = W0 at *
    go_loopw [3, 5, 13] (fun last _ i wr => ∃ (j : Nat) (lv : Int), i = .int .i64 j ∧ last = .int .i64 lv ∧ j ≤ L.length ∧ placedL span lv (L.drop j) = res ∧ Below W.heap.size W wr ∧ Box wr W.heap.size 44 #[.int .i64 base, .int .i64 span, .int .i64 prod, .int .i64 epoch, .int .i64 seq, .slice A L.length c]) (fun _ _ i _ => L.length - (intOf i).toNat)
    case atStart => exact ⟨0, -1, rfl, rfl, Nat.zero_le _, HPL.out, HX.out.1, HX.out.2⟩
    case round =>
      obtain ⟨j, lv, rfl, rfl, hj, hpl, hbw, hbb⟩ := hrel
      by_cases hjl : j < L.length
      · obtain ⟨x, hx⟩ : ∃ x, L[j]? = some x := ⟨_, List.getElem?_eq_getElem hjl⟩
        obtain ⟨bb, off, rfl, hlt, hall⟩ := (h.below hbw) (by omega)
        obtain ⟨⟨x0, x1, x2, x3, x4, x5, x6⟩, _⟩ := hall j x hx
        rw [placed_drop hx] at hpl
        have hb1 : Below W.heap.size W (wr.alloc (.cells (recC x.1 x.2.1 x.2.2) 85)) := hbw.alloc hbw.size _
        have hB1 : Box (wr.alloc (.cells (recC x.1 x.2.1 x.2.2) 85)) W.heap.size 44 #[.int .i64 base, .int .i64 span, .int .i64 prod, .int .i64 epoch, .int .i64 seq, .slice (some ⟨bb, off, none⟩) L.length c] := hbb.alloc _
        unfold recC at hb1 hB1
        have ys : (wr.alloc (.cells #[.int .i64 x.1.place, .int .i64 x.1.time, .bool x.1.bare, .string x.1.key, .bool x.1.gone, .string x.1.value, .slice x.2.1 x.1.heads.length x.2.2] 85)).cell? ⟨W.heap.size, 1, none⟩ = some (.int .i64 span) := (hB1.cell 1).trans rfl
        have H1 := Lib.hid (And.intro hb1 hB1)
        clear hall hbw hbb hb1 hB1
        by_cases q1 : x.1.place ≤ lv
        · have hr : res = false := by rw [← hpl, decide_eq_false (by omega)]; rfl
          subst hr
          clear hpl
          go_wp2
          go_ret
          exact ⟨rfl, H1.out.1⟩
        · by_cases q2 : span ≤ x.1.place
          · have hr : res = false := by rw [← hpl, decide_eq_false (show ¬ x.1.place < span by omega)]; simp
            subst hr
            clear hpl
            go_wp2
            go_ret
            exact ⟨rfl, H1.out.1⟩
          · have hnx : placedL span x.1.place (L.drop (j + 1)) = res := by
              rw [← hpl, decide_eq_true (show lv < x.1.place by omega), decide_eq_true (show x.1.place < span by omega)]
              rfl
            have HN := Lib.hid hnx
            clear hpl hnx
            go_wp2_with fail
            go_roundw
            case rel => exact ⟨j + 1, x.1.place, by go_num, rfl, hjl, HN.out, H1.out.1, H1.out.2⟩
            case measure => simp [intOf]; omega
      · have hje : j = L.length := by omega
        have hr : res = true := by rw [← hpl, hje, List.drop_length]; rfl
        have HB := Lib.hid hbw
        clear hpl hbb hbw
        subst hje
        go_wp2
        go_ret
        rw [hr]
        exact ⟨rfl, HB.out⟩
end Go.Proofs.YtjnphajkoopkgaaGreatDoor
