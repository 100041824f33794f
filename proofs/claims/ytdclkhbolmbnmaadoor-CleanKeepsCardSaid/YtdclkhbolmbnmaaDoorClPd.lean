/- clean: the program's last batches by producer; Latest: by contracts. No condition but that they are not too many. -/
import Derived.Test.YtdclkhbolmbnmaaDoorClKey
import Derived.Test.YtdclkhbolmbnmaaDoorClPrd
import Derived.BigQuiet
namespace Go.Proofs.YtdclkhbolmbnmaaDoor
open Go.RowKit Go.Maps Go.ChangeMaps Go.WideMaps
set_option linter.unusedVariables false
/-- Which batch is the last one of each producer. -/
def prdF : Nat → List BN → List Pr.HE → List Pr.HE
  | _, [], F => F
  | i, b :: l, F => prdF (i + 1) l (Pr.putF ⟨b.prod, i⟩ F)
theorem prdF_snoc (b : BN) : ∀ (i : Nat) (B : List BN) (F : List Pr.HE), prdF i (B ++ [b]) F = Pr.putF ⟨b.prod, ((i + B.length : Nat) : Int)⟩ (prdF i B F)
  | i, [], F => by simp [prdF]
  | i, a :: l, F => by
    have ih := prdF_snoc b (i + 1) l (Pr.putF ⟨a.prod, i⟩ F)
    show prdF (i + 1) (l ++ [b]) _ = _
    rw [ih]
    have e : i + 1 + l.length = i + (a :: l).length := by rw [List.length_cons]; omega
    rw [e]
    rfl
theorem prdF_len : ∀ (i : Nat) (B : List BN) (F : List Pr.HE), (prdF i B F).length ≤ F.length + B.length
  | i, [], F => Nat.le_refl _
  | i, a :: l, F => by
    have h1 := prdF_len (i + 1) l (Pr.putF ⟨a.prod, i⟩ F)
    have h2 := Pr.putF_len (⟨a.prod, i⟩ : Pr.HE) F
    show (prdF (i + 1) l _).length ≤ _
    rw [List.length_cons]
    omega
structure PrSt (W : World) (g : Nat) (F : List Pr.HE) (w : World) : Prop where
  km : Pr.PmIs w (some g) F
  bel : Below W.heap.size W w
theorem PrSt.later {W w w' : World} {g : Nat} {F : List Pr.HE} (h : PrSt W g F w) (hb : Below w.heap.size w w') : PrSt W g F w' := ⟨h.km.later hb, h.bel.trans (hb.mono h.bel.size)⟩
theorem PrSt.put {W w w' : World} {g : Nat} {F : List Pr.HE} {x : Pr.HE} (h : PrSt W g F w) (hg : W.heap.size ≤ g) (h1 : w'.ownsMap Tryd.prog 3 Pr.tokP g (Pr.putF x F).length (Pr.mapP (Pr.putF x F))) (h2 : w.grownBy w' (some g)) : PrSt W g (Pr.putF x F) w' :=
  ⟨⟨.inr ⟨g, rfl, h1⟩, Pr.insH_rise (h.km.rise.sublist List.filter_sublist) (fun y hy => by have := (List.mem_filter.1 hy).2; simpa using this)⟩, h.bel.grown h2 h.bel.size (fun j hj => by injection hj with hj; omega)⟩
set_option maxHeartbeats 8000000 in
set_option maxRecDepth 100000 in
theorem lastOfProducers_c (L : List BX) (A : Option Addr) (c : Nat) (W : World) (h : BsIn W A L) (hl : L.length ≤ 1000) (hz : ∀ x ∈ L, Pr.i64B x.1.prod) :
    Calls Tryd.prog 20 #[.slice A L.length c] W (fun e w' => ∃ g, e = .returned (.map (some g)) ∧ W.heap.size ≤ g ∧ Pr.PmIs w' (some g) (prdF 0 (L.map (·.1)) []) ∧ Below W.heap.size W w') := by
  have hmk : ∀ w : World, (Instr.makeMap 51 none).run Tryd.prog w = .ok (.map (some w.heap.size)) (w.alloc (.map #[] 0)) := fun w => Pr.make_map w
  have hbm : Below W.heap.size W (W.alloc (.map #[] 0)) := (Below.refl _ _).alloc (Nat.le_refl _) _
  have H0 : Hid (PrSt W W.heap.size [] (W.alloc (.map #[] 0))) := Lib.hid ⟨⟨.inr ⟨_, rfl, World.ownsMap_made W Tryd.prog 3 Pr.tokP⟩, .nil⟩, hbm⟩
  have HH := Lib.hid h
  have HZ := Lib.hid hz
  have HF := Lib.hid (fun k => prdF_len 0 ((L.map (·.1)).take k) [])
  clear h hz hbm
  go_enter Tryd.func20, Tryd.ntmps20
  go_wp2_with fail
  generalize hg0 : W.heap.size = g0 at *
  generalize (W.alloc (.map #[] 0)) = W0 at *
  go_loopw [9] (fun j wr => ∃ k : Nat, j = .int .i64 k ∧ k ≤ L.length ∧ PrSt W g0 (prdF 0 ((L.map (·.1)).take k) []) wr) (fun j _ => L.length - (intOf j).toNat)
  case atStart => exact ⟨0, rfl, Nat.zero_le _, H0.out⟩
  case round =>
    obtain ⟨k, rfl, hk, hS⟩ := hrel
    clear H0
    by_cases hkl : k < L.length
    · obtain ⟨x, hx⟩ : ∃ x, L[k]? = some x := ⟨_, List.getElem?_eq_getElem hkl⟩
      obtain ⟨b, off, rfl, hbl, hc⟩ := HH.out (by omega)
      obtain ⟨hbx, _⟩ := hc k x hx
      have hbW := hbx.below hbl hS.bel
      obtain ⟨z0, z1, z2, z3, z4, z5⟩ := hbW
      have hbl2 : b < wr.heap.size := Nat.lt_of_lt_of_le hbl hS.bel.size
      have hzx := HZ.out x (List.mem_of_getElem? hx)
      have hA : Below wr.heap.size wr (wr.alloc (.cells #[.int .i64 x.1.base, .int .i64 x.1.span, .int .i64 x.1.prod, .int .i64 x.1.epoch, .int .i64 x.1.seq, .slice x.2.2.1 x.2.1.length x.2.2.2] 29)) := (Below.refl _ _).alloc (Nat.le_refl _) _
      have HS6 := Lib.hid (hS.later hA)
      have hki : (k : Int) < (L.length : Int) := by omega
      have hk0 : (0 : Int) ≤ (k : Int) := by omega
      have HST : Hid (prdF 0 ((L.map (·.1)).take (k + 1)) [] = Pr.putF ⟨x.1.prod, k⟩ (prdF 0 ((L.map (·.1)).take k) [])) := Lib.hid (by
        rw [List.take_add_one, List.getElem?_map, hx]
        show prdF 0 (_ ++ [x.1]) [] = _
        rw [prdF_snoc, List.length_take, List.length_map, Nat.min_eq_left hk, Nat.zero_add])
      have hF1 := HF.out k
      have hlen : (prdF 0 ((L.map (·.1)).take k) []).length ≤ 1000 := by
        rw [List.length_nil, List.length_take, List.length_map] at hF1
        omega
      generalize prdF 0 ((L.map (·.1)).take k) [] = Fk at *
      obtain ⟨bn, R, RA, rc⟩ := x
      obtain ⟨base, span, prod, epoch, seq⟩ := bn
      dsimp only at *
      obtain ⟨U, hU, hV⟩ := Pr.upd_fun g0 Fk.length Fk ⟨prod, k⟩ hzx (by unfold maxLen; omega)
      have hown : (wr.alloc (.cells #[.int .i64 base, .int .i64 span, .int .i64 prod, .int .i64 epoch, .int .i64 seq, .slice RA R.length rc] 29)).ownsMap Tryd.prog 3 Pr.tokP g0 Fk.length (Pr.mapP Fk) := by
        rcases HS6.out.km.map with ⟨h1, _⟩ | ⟨g1, h1, h2⟩
        · cases h1
        · injection h1 with h1
          subst h1
          exact h2
      have hU0 := hU _ hown
      have HU := Lib.hid (hV _ hown)
      clear hS hc hbx hx hA hF1 hzx hU hV hown
      generalize hk11 : k * 6 = k6 at *
      go_wp2_with fail
      go_roundw
      case rel =>
        refine ⟨k + 1, by go_num, hkl, ?_⟩
        rw [HST.out]
        exact HS6.out.put (Nat.le_of_eq hg0) HU.out.1 HU.out.2
      case measure => simp [intOf]; omega
    · have hkk : k = L.length := by omega
      have hki : ¬ (k : Int) < (L.length : Int) := by omega
      have HS := Lib.hid hS
      clear hS
      go_wp2_with fail
      go_ret
      refine ⟨g0, rfl, Nat.le_refl _, ?_, hg0 ▸ HS.out.bel⟩
      have := HS.out.km
      rw [hkk, List.take_of_length_le (by rw [List.length_map]; exact Nat.le_refl _)] at this
      exact this
end Go.Proofs.YtdclkhbolmbnmaaDoor
