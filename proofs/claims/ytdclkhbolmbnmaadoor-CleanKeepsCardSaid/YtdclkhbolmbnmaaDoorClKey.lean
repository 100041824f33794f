/- clean: the program's last places by key, by a contract. No condition but that they are not too many. -/
import Derived.Test.YtdclkhbolmbnmaaDoorClMath
import Derived.Test.YtdclkhbolmbnmaaDoorClA
namespace Go.Proofs.YtdclkhbolmbnmaaDoor
open Go.RowKit Go.Maps Go.ChangeMaps Go.WideMaps
set_option linter.unusedVariables false
/-- A batch's records. -/
def bxR (x : BX) : List Rec := x.2.1.map (·.1)
theorem bxR_len (x : BX) : (bxR x).length = x.2.1.length := List.length_map _
theorem lastF_step {B : List (List Rec)} {k : Nat} {R : List Rec} (hR : B[k]? = some R) : putAll (seqL 0 (B.take (k + 1))) [] = putAll (seqR k 0 R) (putAll (seqL 0 (B.take k)) []) := by
  have hk := (List.getElem?_eq_some_iff.1 hR).1
  rw [List.take_add_one, hR]
  show putAll (seqL 0 (B.take k ++ [R])) [] = _
  rw [seqL_snoc, putAll_app]
  have : (B.take k).length = k := by rw [List.length_take]; omega
  rw [this, Nat.zero_add]
theorem keyF_step {F : List TE} {i m : Nat} {R : List Rec} {r : Rec} (hr : R[m]? = some r) : putAll (seqR i 0 (R.take (m + 1))) F = if r.bare then putAll (seqR i 0 (R.take m)) F else putT ⟨keyB r, i, m⟩ (putAll (seqR i 0 (R.take m)) F) := by
  have hm := (List.getElem?_eq_some_iff.1 hr).1
  rw [List.take_add_one, hr]
  show putAll (seqR i 0 (R.take m ++ [r])) F = _
  rw [seqR_snoc, putAll_app]
  have : (R.take m).length = m := by rw [List.length_take]; omega
  rw [this, Nat.zero_add]
  split
  · rfl
  · rfl
theorem seqL_len (n : Nat) : ∀ (i : Nat) (B : List (List Rec)), (∀ R ∈ B, R.length ≤ n) → (seqL i B).length ≤ B.length * n
  | _, [], _ => Nat.zero_le _
  | i, R :: l, h => by
    have h1 := seqL_len n (i + 1) l (fun Q hQ => h Q (by simp [hQ]))
    have h2 := seqR_len i 0 R
    have h3 := h R (by simp)
    show (seqR i 0 R ++ seqL (i + 1) l).length ≤ _
    rw [List.length_append, List.length_cons, Nat.add_mul, Nat.one_mul]
    omega
theorem lastF_few {B : List (List Rec)} (h8 : B.length ≤ 1000) (h : ∀ R ∈ B, R.length ≤ 1000) (k : Nat) : (putAll (seqL 0 (B.take k)) []).length ≤ 1000000 := by
  have h1 := putAll_len (seqL 0 (B.take k)) []
  have h2 := seqL_len 1000 0 (B.take k) (fun R hR => h R (List.mem_of_mem_take hR))
  have h3 : (B.take k).length * 1000 ≤ 1000 * 1000 := Nat.mul_le_mul_right _ (by rw [List.length_take]; omega)
  rw [List.length_nil] at h1
  omega
/-- Looking for last places under way. -/
structure KySt (W : World) (g : Nat) (F : List TE) (w : World) : Prop where
  km : KmIs w (some g) F
  bel : Below W.heap.size W w
  len : F.length ≤ 2000000
theorem KySt.later {W w w' : World} {g : Nat} {F : List TE} (h : KySt W g F w) (hb : Below w.heap.size w w') : KySt W g F w' := ⟨h.km.later hb, h.bel.trans (hb.mono h.bel.size), h.len⟩
theorem KySt.put {W w w' : World} {g : Nat} {F : List TE} {x : TE} (h : KySt W g F w) (hg : W.heap.size ≤ g) (h1 : w'.ownsMap Tryd.prog 9 tokT g (putT x F).length (mapT (putT x F))) (h2 : w.grownBy w' (some g)) (hl : (putT x F).length ≤ 2000000) : KySt W g (putT x F) w' :=
  ⟨⟨.inr ⟨g, rfl, h1⟩, putT_rise h.km.rise⟩, h.bel.grown h2 h.bel.size (fun j hj => by injection hj with hj; omega), hl⟩
set_option maxHeartbeats 8000000 in
set_option maxRecDepth 100000 in
theorem lastOfKeys_c (L : List BX) (A : Option Addr) (c : Nat) (W : World) (h : BsIn W A L) (hl : L.length ≤ 1000) (hr : ∀ x ∈ L, x.2.1.length ≤ 1000) (hz : ∀ x ∈ L, ∀ y ∈ x.2.1, y.1.key.size ≤ maxLen) :
    Calls Tryd.prog 19 #[.slice A L.length c] W (fun e w' => ∃ g, e = .returned (.map (some g)) ∧ W.heap.size ≤ g ∧ KmIs w' (some g) (lastF (L.map bxR)) ∧ Below W.heap.size W w') := by
  have hmk : ∀ w : World, (Instr.makeMap 49 none).run Tryd.prog w = .ok (.map (some w.heap.size)) (w.alloc (.map #[] 0)) := fun w => make_map w
  have hbm : Below W.heap.size W (W.alloc (.map #[] 0)) := (Below.refl _ _).alloc (Nat.le_refl _) _
  have H0 : Hid (KySt W W.heap.size [] (W.alloc (.map #[] 0))) := Lib.hid ⟨⟨.inr ⟨_, rfl, World.ownsMap_made W Tryd.prog 9 tokT⟩, .nil⟩, hbm, by simp⟩
  have HH := Lib.hid h
  have HR := Lib.hid hr
  have HZ := Lib.hid hz
  have HF := Lib.hid (fun k => lastF_few (B := L.map bxR) (by rw [List.length_map]; exact hl) (fun R hR => by
    obtain ⟨x, hx, rfl⟩ := List.mem_map.1 hR
    rw [bxR_len]; exact hr x hx) k)
  clear h hr hz hbm
  go_enter Tryd.func19, Tryd.ntmps19
  go_wp2_with fail
  generalize hg0 : W.heap.size = g0 at *
  generalize (W.alloc (.map #[] 0)) = W0 at *
  go_loopw [11] (fun j wr => ∃ k : Nat, j = .int .i64 k ∧ k ≤ L.length ∧ KySt W g0 (putAll (seqL 0 ((L.map bxR).take k)) []) wr) (fun j _ => L.length - (intOf j).toNat)
  case atStart => exact ⟨0, rfl, Nat.zero_le _, H0.out⟩
  case round =>
    obtain ⟨k, rfl, hk, hS⟩ := hrel
    clear H0
    by_cases hkl : k < L.length
    · obtain ⟨x, hx⟩ : ∃ x, L[k]? = some x := ⟨_, List.getElem?_eq_getElem hkl⟩
      obtain ⟨b, off, rfl, hbl, hc⟩ := HH.out (by omega)
      obtain ⟨hbx, hrs⟩ := hc k x hx
      have hbW := hbx.below hbl hS.bel
      obtain ⟨z0, z1, z2, z3, z4, z5⟩ := hbW
      have hbl2 : b < wr.heap.size := Nat.lt_of_lt_of_le hbl hS.bel.size
      have hxm := List.mem_of_getElem? hx
      have hA : Below wr.heap.size wr (wr.alloc (.cells #[.int .i64 x.1.base, .int .i64 x.1.span, .int .i64 x.1.prod, .int .i64 x.1.epoch, .int .i64 x.1.seq, .slice x.2.2.1 x.2.1.length x.2.2.2] 29)) := (Below.refl _ _).alloc (Nat.le_refl _) _
      have HS := Lib.hid (hS.later hA)
      have HB := Lib.hid hrs
      have HX := Lib.hid hx
      have hR1 := HR.out x hxm
      have HZ1 := Lib.hid (HZ.out x hxm)
      have hki : (k : Int) < (L.length : Int) := by omega
      have hk0 : (0 : Int) ≤ (k : Int) := by omega
      have hST : Hid (putAll (seqL 0 ((L.map bxR).take (k + 1))) [] = putAll (seqR k 0 (bxR x)) (putAll (seqL 0 ((L.map bxR).take k)) [])) := Lib.hid (lastF_step (by rw [List.getElem?_map, hx]; rfl))
      have hF1 := HF.out k
      generalize hFk : putAll (seqL 0 ((L.map bxR).take k)) [] = Fk at *
      have HFk := Lib.hid hFk
      have HFl := Lib.hid hF1
      obtain ⟨bn, R, RA, rc⟩ := x
      obtain ⟨base, span, prod, epoch, seq⟩ := bn
      dsimp only at *
      clear hS hc hbx hrs hx hxm hA hFk hF1
      generalize hk11 : k * 6 = k6 at *
      go_wp2_with fail
      go_loopw [19] (fun j wr => ∃ m : Nat, j = .int .i64 m ∧ m ≤ R.length ∧ KySt W g0 (putAll (seqR k 0 ((bxR (⟨base, span, prod, epoch, seq⟩, R, RA, rc)).take m)) Fk) wr) (fun j _ => R.length - (intOf j).toNat)
      case atStart => exact ⟨0, rfl, Nat.zero_le _, HS.out⟩
      case round =>
        obtain ⟨m, rfl, hm, hS⟩ := hrel
        clear HS
        by_cases hml : m < R.length
        · obtain ⟨y, hy⟩ : ∃ y, R[m]? = some y := ⟨_, List.getElem?_eq_getElem hml⟩
          have hrw := HB.out.below hS.bel
          obtain ⟨b2, off2, rfl, hbl3, hc2⟩ := hrw (by omega)
          obtain ⟨hbx2, hri⟩ := hc2 m y hy
          have hym := List.mem_of_getElem? hy
          have hkz := HZ1.out y hym
          have hbr : (bxR (⟨base, span, prod, epoch, seq⟩, R, some ⟨b2, off2, none⟩, rc))[m]? = some y.1 := by
            show (R.map _)[m]? = _
            rw [List.getElem?_map, hy]; rfl
          have hks := keyF_step (F := Fk) (i := k) hbr
          have hlen : (putAll (seqR k 0 ((bxR (⟨base, span, prod, epoch, seq⟩, R, some ⟨b2, off2, none⟩, rc)).take m)) Fk).length ≤ 1001000 := by
            have h1 := putAll_len (seqR k 0 ((bxR (⟨base, span, prod, epoch, seq⟩, R, some ⟨b2, off2, none⟩, rc)).take m)) Fk
            have h2 := seqR_len k 0 ((bxR (⟨base, span, prod, epoch, seq⟩, R, some ⟨b2, off2, none⟩, rc)).take m)
            have h3 := HFl.out
            rw [List.length_take, bxR_len] at h2
            have h4 : (R, (some (⟨b2, off2, none⟩ : Addr)), rc).1.length ≤ 1000 := hR1
            have h5 : min m R.length ≤ 1000 := Nat.le_trans (Nat.min_le_right _ _) h4
            have h6 : (seqR k 0 ((bxR (⟨base, span, prod, epoch, seq⟩, R, some ⟨b2, off2, none⟩, rc)).take m)).length ≤ 1000 := Nat.le_trans h2 h5
            omega
          generalize hFm : putAll (seqR k 0 ((bxR (⟨base, span, prod, epoch, seq⟩, R, some ⟨b2, off2, none⟩, rc)).take m)) Fk = Fm at *
          have HKS := Lib.hid hks
          obtain ⟨q0, q1, q2, q3, q4, q5, q6⟩ := hbx2
          obtain ⟨⟨pl, tm, ba, ky, gn, va, hs⟩, hA2, hcc⟩ := y
          dsimp only at *
          have hA : Below wr.heap.size wr (wr.alloc (.cells #[.int .i64 pl, .int .i64 tm, .bool ba, .string ky, .bool gn, .string va, .slice hA2 hs.length hcc] 39)) := (Below.refl _ _).alloc (Nat.le_refl _) _
          have HS6 := Lib.hid (hS.later hA)
          have hmi : (m : Int) < (R.length : Int) := by omega
          have hm0 : (0 : Int) ≤ (m : Int) := by omega
          clear hc2 hri hy hym hbr hks hrw hFm hA
          cases ba with
          | true =>
            clear hS hkz
            generalize hm7 : m * 7 = m7 at *
            go_wp2_with fail
            go_roundw
            case rel =>
              refine ⟨m + 1, by go_num, hml, ?_⟩
              rw [HKS.out]
              exact HS6.out
            case measure => simp [intOf]; omega
          | false =>
            obtain ⟨U, hU, hV⟩ := upd_fun g0 Fm.length Fm ky ⟨ky.data.toList, k, m⟩ rfl hkz (by unfold maxLen; omega)
            have hown : ∀ w', KySt W g0 Fm w' → w'.ownsMap Tryd.prog 9 tokT g0 Fm.length (mapT Fm) := fun w' h => by
              rcases h.km.map with ⟨h1, _⟩ | ⟨g1, h1, h2⟩
              · cases h1
              · injection h1 with h1
                subst h1
                exact h2
            have hU0 := hU _ (hown _ HS6.out)
            have HU := Lib.hid (hV _ (hown _ HS6.out))
            have HLN := Lib.hid hlen
            clear hS hkz hU hV hown
            generalize hm7 : m * 7 = m7 at *
            go_wp2_with fail
            go_roundw
            case rel =>
              refine ⟨m + 1, by go_num, hml, ?_⟩
              rw [HKS.out]
              have hpl := putT_len (⟨ky.data.toList, k, m⟩ : TE) Fm
              exact HS6.out.put (Nat.le_of_eq hg0) HU.out.1 HU.out.2 (Nat.le_trans hpl (by have := HLN.out; omega))
            case measure => simp [intOf]; omega
        · have hmm : m = R.length := by omega
          have hmi : ¬ (m : Int) < (R.length : Int) := by omega
          have HS := Lib.hid hS
          clear hS
          go_wp2_with fail
          go_roundw
          case rel =>
            refine ⟨k + 1, by go_num, hkl, ?_⟩
            rw [hST.out]
            have := HS.out
            rw [hmm, List.take_of_length_le (by rw [bxR_len]; exact Nat.le_refl _)] at this
            exact this
          case measure => simp [intOf]; omega
    · have hkk : k = L.length := by omega
      have hki : ¬ (k : Int) < (L.length : Int) := by omega
      have HS := Lib.hid hS
      clear hS
      go_wp2_with fail
      go_ret
      refine ⟨g0, rfl, Nat.le_refl _, ?_, hg0 ▸ HS.out.bel⟩
      have := HS.out.km
      rw [hkk, List.take_of_length_le (by rw [List.length_map]; exact Nat.le_refl _)] at this
      exact this
end Go.Proofs.YtdclkhbolmbnmaaDoor
