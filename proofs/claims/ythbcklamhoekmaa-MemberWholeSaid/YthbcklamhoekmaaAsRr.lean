/- assign: the document's Range, by a contract. No condition. -/
import Derived.Test.YthbcklamhoekmaaAsRn
import Derived.Test.YthbcklamhoekmaaAsRc
import Derived.Deep.AppendLies
import Derived.Deep.RegionHeld3
import Derived.Deep.Cut
import Derived.Deep.CutRange
namespace Go.Proofs.Ythbcklamhoekmaa
open Go.RowKit
set_option linter.unusedVariables false
section
variable {P : Program} {md : Region.Mode} {l : List Oper} {Q : Exit → Act → World → Prop} {S : World → Prop}
theorem takeW {i : Nat} {oi : Oper} {v : Value} {fuel : Nat} {listed : Array Bool} {a : Act} {w : World} (hi : l[i]? = some oi)
    (hs : Region.noSelect l.toArray = true) (hf : Region.free md l.toArray listed i = true) (hr : (Region.ready md l.toArray listed).contains i = true)
    (hQ : ∀ c a w, Q (.panic c) (a.put oi.dst v) w → Q (.panic c) a w) (hw : Region.wanted oi (yielded l.toArray a.tmps) = true) (hS : S w) (hy : ∀ w, S w → (execOp a.eval oi).run P w = .ok (.value v) w)
    (h : wpAnyH P md l.toArray Q S fuel (listed.setIfInBounds i true) (a.put oi.dst v) w) : wpAnyH P md l.toArray Q S (fuel + 1) listed a w :=
  wpAnyH_take (List.getElem?_toArray.trans hi) hs hf hr hQ (.inl ⟨hw, hy⟩) hS h
theorem takeU {i : Nat} {oi : Oper} {fuel : Nat} {listed : Array Bool} {a : Act} {w : World} (hi : l[i]? = some oi)
    (hs : Region.noSelect l.toArray = true) (hf : Region.free md l.toArray listed i = true) (hr : (Region.ready md l.toArray listed).contains i = true)
    (hQ : ∀ c a w, Q (.panic c) (a.put oi.dst undef) w → Q (.panic c) a w) (hw : Region.wanted oi (yielded l.toArray a.tmps) = false) (hS : S w)
    (h : wpAnyH P md l.toArray Q S fuel (listed.setIfInBounds i true) (a.put oi.dst undef) w) : wpAnyH P md l.toArray Q S (fuel + 1) listed a w :=
  wpAnyH_take (List.getElem?_toArray.trans hi) hs hf hr hQ (.inr ⟨hw, rfl⟩) hS h
theorem consL {i : Nat} {o : Oper} {rs : List Nat} {fuel : Nat} {listed : Array Bool} {a : Act} {w : World} (hi : l[i]? = some o) (hw : Region.wanted o (yielded l.toArray a.tmps) = true)
    (h : ∀ K' : Act → World → Prop, Shut (∀ a w, S w → (S w → wpAnyH P md l.toArray Q S fuel (listed.setIfInBounds i true) a w) → K' a w) → Oper.wp P o a w K' Q)
    (hs : AllReadyH P md l.toArray Q S fuel listed a w rs) : AllReadyH P md l.toArray Q S fuel listed a w (i :: rs) :=
  AllReadyH.cons (List.getElem?_toArray.trans hi) (fun K' hK => by rw [if_pos hw]; exact h K' hK) hs
end
theorem updD_twice (D : Nat → List TX) (m : Nat) (a b : List TX) : updD (updD D m a) m b = updD D m b := by
  funext k
  unfold updD
  split <;> rfl
theorem updD_self (D : Nat → List TX) (m : Nat) : updD D m (D m) = D := by
  funext k
  unfold updD
  split
  · subst_vars; rfl
  · rfl
/-- A partition put behind a member's. -/
theorem RgS.app {W w : World} {S : List SX} {g n c m : Nat} {D : Nat → List TX} {R : List (Int × Value)} {r : Int × Value} (h : RgS W S (.slice (some ⟨g, 0, none⟩) n c) D R w) (hm : R[m]? = some r) (s : ByteArray) (i : Int) (o : Obj) :
    ∀ (g2 cap2 : Nat) (w4 : World), w4.ownsRow W.heap.size 56 2 (.slice (some ⟨g2, 0, none⟩) ((D m).length + 1) cap2) ((D m).length + 1) (prtC (D m) ++ [.string s, .int .i64 i]) → (w.alloc o).drew.grownBy w4 r.2.ownBlock → (r.2.ownBlock = some g2 ∨ g2 = w.heap.size + 1) →
      w4.cell? ⟨g, m * 2 + 1, none⟩ = some r.2 ∧ w4.frozen? ⟨g, m * 2 + 1, none⟩ = false ∧
      (RgS W S (.slice (some ⟨g, 0, none⟩) n c) (updD D m (D m ++ [(s, i)])) (R.set m (r.1, .slice (some ⟨g2, 0, none⟩) ((D m).length + 1) cap2)) (w4.setCell ⟨g, m * 2 + 1, none⟩ (.slice (some ⟨g2, 0, none⟩) ((D m).length + 1) cap2)) ∧
        Off (fun k => k = g ∨ r.2.ownBlock = some k) w (w4.setCell ⟨g, m * 2 + 1, none⟩ (.slice (some ⟨g2, 0, none⟩) ((D m).length + 1) cap2)) ∧ Off (fun k => r.2.ownBlock = some k) w w4) := by
  intro g2 cap2 w4 hown hgrow hg
  have hb : Below w.heap.size w (w.alloc o).drew := ((Below.refl _ _).alloc (Nat.le_refl _) _).drew
  have h' := h.later hb
  have hrow1 := own_off h'.sh.row ((Off.refl (fun k => r.2.ownBlock = some k) (w.alloc o).drew).grown hgrow (fun k e _ => e)) (fun k hk hs => own_two h'.sh.row (h'.sh.parts m r hm) (by decide) k hk hs)
  have hRl : 0 < R.length := Nat.lt_of_le_of_lt (Nat.zero_le _) (List.getElem?_eq_some_iff.1 hm).1
  obtain ⟨hnR, g', e, _, hbg, _⟩ := h.sh.at_ hm
  subst hnR
  injection e with e
  injection e with e
  subst e
  have hgrow' : w.grownBy w4 r.2.ownBlock := ⟨hgrow.os, hgrow.tape, hgrow.output, Nat.le_trans hb.size hgrow.size, fun k hk hne => (hgrow.block k (Nat.lt_of_lt_of_le hk hb.size) hne).trans (hb.block k hk)⟩
  have o1 : Off (fun k => r.2.ownBlock = some k) w w4 := (Off.refl (fun k => r.2.ownBlock = some k) w).grown hgrow' (fun k e _ => e)
  refine ⟨?_, hrow1.frozenAt _, ⟨?_, ?_, ?_⟩, ?_, o1⟩
  · obtain ⟨g2', e2, _, _, _, hc2⟩ := own_in hrow1 hRl
    injection e2 with e2
    injection e2 with e2
    subst e2
    exact hc2 _ _ (shC_at hm).2
  · refine h'.sh.put hm hgrow (X := D m ++ [(s, i)]) (by rw [List.length_append, prtC_app]; exact hown) ?_
    rcases hg with hg | hg
    · exact .inl hg.symm
    · refine .inr ?_
      rw [hg]
      show some (w.heap.size + 1) = some (w.alloc o).heap.size
      simp
  · rw [map_set_same hm]; exact h.mem
  · refine (h.bel.trans (o1.below (B := W.heap.size) h.bel.size fun k hk => (own_blk (h.sh.parts m r hm) hk).1)).setCell (p := ⟨g, m * 2 + 1, none⟩) hbg _
  · exact (o1.mono fun k _ e => .inr e).set (p := ⟨g, m * 2 + 1, none⟩) (.inl (.inl rfl)) _
/-- Dealing under way, with the takers. -/
structure RrI (W : World) (S : List SX) (v : Value) (A3 : Option Addr) (c3 : Nat) (L : List Nat) (D : Nat → List TX) (R : List (Int × Value)) (w : World) : Prop where
  st : RgS W S v D R w
  tak : w.ownsRow W.heap.size 3 1 (.slice A3 L.length c3) L.length (intsC L)
theorem RrI.app {W w : World} {S : List SX} {A3 : Option Addr} {c3 : Nat} {L : List Nat} {g n c m : Nat} {D : Nat → List TX} {R : List (Int × Value)} {r : Int × Value} (h : RrI W S (.slice (some ⟨g, 0, none⟩) n c) A3 c3 L D R w) (hm : R[m]? = some r) {gt x : Nat} {hA : A3 = some ⟨gt, 0, none⟩} {mm : Nat} (hx : L[x]? = some mm) (s : ByteArray) (i : Int) (o : Obj) :
    ∀ (g2 cap2 : Nat) (w4 : World), w4.ownsRow W.heap.size 56 2 (.slice (some ⟨g2, 0, none⟩) ((D m).length + 1) cap2) ((D m).length + 1) (prtC (D m) ++ [.string s, .int .i64 i]) → (w.alloc o).drew.grownBy w4 r.2.ownBlock → (r.2.ownBlock = some g2 ∨ g2 = w.heap.size + 1) →
      w4.cell? ⟨g, m * 2 + 1, none⟩ = some r.2 ∧ w4.frozen? ⟨g, m * 2 + 1, none⟩ = false ∧ w4.cell? ⟨gt, x, none⟩ = some (.int .i64 mm) ∧ (w.alloc o).cell? ⟨gt, x, none⟩ = some (.int .i64 mm) ∧ (w.alloc o).cell? ⟨g, m * 2 + 1, none⟩ = some r.2 ∧ Hid (Below W.heap.size W w4 ∧ w4.ownsRow W.heap.size 3 1 (.slice A3 L.length c3) L.length (intsC L)) ∧
      Hid (RrI W S (.slice (some ⟨g, 0, none⟩) n c) A3 c3 L (updD D m (D m ++ [(s, i)])) (R.set m (r.1, .slice (some ⟨g2, 0, none⟩) ((D m).length + 1) cap2)) (w4.setCell ⟨g, m * 2 + 1, none⟩ (.slice (some ⟨g2, 0, none⟩) ((D m).length + 1) cap2))) := by
  intro g2 cap2 w4 h1 h2 h3
  obtain ⟨k1, k2, k3, k4, k5⟩ := h.st.app hm s i o g2 cap2 w4 h1 h2 h3
  have hb : Below w.heap.size w (w.alloc o) := (Below.refl _ _).alloc (Nat.le_refl _) _
  have t4 := own_off h.tak k5 (fun k hk hs => own_two h.tak (h.st.sh.parts m r hm) (by decide) k hk hs)
  obtain ⟨gt1, e1, _, v1⟩ := ints_at t4 hx
  obtain ⟨gt2, e2, _, v2⟩ := ints_at (own_below h.tak hb) hx
  rw [hA] at e1 e2
  injection e1 with e1
  injection e1 with e1
  injection e2 with e2
  injection e2 with e2
  subst e1
  subst e2
  have t5 := t4
  obtain ⟨_, _, ea, hga, _, _, va, _⟩ := h.st.sh.at_ hm
  injection ea with ea
  injection ea with ea
  subst ea
  refine ⟨k1, k2, v1, v2, (hb.cell (p := ⟨g, m * 2 + 1, none⟩) hga).trans va, Lib.hid ⟨h.st.bel.trans (k5.below (B := W.heap.size) h.st.bel.size fun k hk => (own_blk (h.st.sh.parts m r hm) hk).1), t4⟩, Lib.hid ⟨k3, own_off h.tak k4 ?_⟩⟩
  rintro k hk (hs | hs)
  · exact own_two h.tak h.st.sh.row (by decide) k hk (by rw [hs]; rfl)
  · exact own_two h.tak (h.st.sh.parts m r hm) (by decide) k hk hs
theorem rrange_bad (S : List SX) (A : Option Addr) (c : Nat) (T : List TX) (A2 : Option Addr) (c2 : Nat) (W : World) (hS : SbIn W A S) (hT : TpIn W A2 T) (hl : S.length ≤ 140737488351232) (hl2 : T.length ≤ 140737488351232) (hz : ∀ x ∈ S, x.2.1.length ≤ 140737488351232) (hk : chkE S T = 1) :
    Calls Try.prog 61 #[.slice A S.length c, .slice A2 T.length c2] W (Good W (.tuple #[.slice none 0 0, .int .i64 1])) := by
  have c1 := rcheck_c S A c T A2 c2 W hS hT hl hl2 hz
  rw [hk] at c1
  clear hS hT hz
  go_enter Try.func61, Try.ntmps61
  go_wp2_with fail
  with_reducible refine c1.mono ?_
  rintro e w1 ⟨rfl, hb1⟩
  go_wp2_with fail
  go_ret2
  exact ⟨rfl, hb1⟩
theorem rround_bad (S : List SX) (A : Option Addr) (c : Nat) (T : List TX) (A2 : Option Addr) (c2 : Nat) (W : World) (hS : SbIn W A S) (hT : TpIn W A2 T) (hl : S.length ≤ 140737488351232) (hl2 : T.length ≤ 140737488351232) (hz : ∀ x ∈ S, x.2.1.length ≤ 140737488351232) (hk : chkE S T = 1) :
    Calls Try.prog 62 #[.slice A S.length c, .slice A2 T.length c2] W (Good W (.tuple #[.slice none 0 0, .int .i64 1])) := by
  have c1 := rcheck_c S A c T A2 c2 W hS hT hl hl2 hz
  rw [hk] at c1
  clear hS hT hz
  go_enter Try.func62, Try.ntmps62
  go_wp2_with fail
  with_reducible refine c1.mono ?_
  rintro e w1 ⟨rfl, hb1⟩
  go_wp2_with fail
  go_ret2
  exact ⟨rfl, hb1⟩
theorem chunk_zero (s : ByteArray) (n len x : Nat) : (chunkN s n len x).take 0 = [] := rfl
theorem chunk_succ {s : ByteArray} {n len x y : Nat} (hx : x < len) (hy : y < rowN n len x) : (chunkN s n len x).take (y + 1) = (chunkN s n len x).take y ++ [(s, ((offN n len x + y : Nat) : Int))] := by
  have hg : (chunkN s n len x)[y]? = some (s, ((offN n len x + y : Nat) : Int)) := by
    have := offN_le (n := n) hx
    unfold chunkN prtsG
    rw [List.getElem?_take, if_pos hy, List.getElem?_drop, List.getElem?_map, List.getElem?_range (by omega)]
    rfl
  rw [List.take_add_one, hg]
  rfl
theorem chunk_all {s : ByteArray} {n len x : Nat} (hx : x < len) : (chunkN s n len x).take (rowN n len x) = chunkN s n len x := List.take_of_length_le (by rw [chunkN_len hx]; exact Nat.le_refl _)
end Go.Proofs.Ythbcklamhoekmaa
