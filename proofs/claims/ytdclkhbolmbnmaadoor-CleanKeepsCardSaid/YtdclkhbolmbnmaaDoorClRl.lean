/- clean: the document's Latest, by a contract. No condition but that they are not too many. -/
import Derived.Test.YtdclkhbolmbnmaaDoorClLt
import Derived.BigQuiet
import Derived.Deep.QuietTactic
namespace Go.Proofs.YtdclkhbolmbnmaaDoor
open Go.RowKit Go.Maps Go.ChangeMaps Go.WideMaps
set_option linter.unusedVariables false
/-- Where a place stands. -/
def valE (L : List BX) (e : TE) : Int :=
  match L[e.id.toNat]? with
  | none => 0
  | some x => match x.2.1[e.parts.toNat]? with
    | none => 0
    | some y => x.1.base + y.1.place
theorem valE_at {L : List BX} {n : List UInt8} {i j : Nat} {x : BX} {y : RX} (hx : L[i]? = some x) (hy : x.2.1[j]? = some y) : valE L ⟨n, i, j⟩ = x.1.base + y.1.place := by
  unfold valE
  simp only [Int.toNat_natCast]
  rw [hx]
  simp only
  rw [hy]
def valO (L : List BX) (o : Option TE) : Int × Bool := match o with | none => (0, false) | some e => (valE L e, true)
theorem lastN_snoc (S : List TE) (e : TE) (s : List UInt8) : lastN (S ++ [e]) s = if e.name = s then some e else lastN S s := by
  unfold lastN
  rw [List.reverse_append]
  show (e :: S.reverse).find? _ = _
  by_cases h : e.name = s
  · rw [if_pos h, List.find?_cons_of_pos (by simp [h])]
  · rw [if_neg h, List.find?_cons_of_neg (by simp; exact h)]
theorem key_eq {a s : ByteArray} : a.data.toList = s.data.toList ↔ a = s := ⟨fun h => ByteArray.ext (Array.ext' h), fun h => by rw [h]⟩
def seqKM (L : List BX) (k : Nat) (R : List Rec) (m : Nat) : List TE := seqL 0 ((L.map bxR).take k) ++ seqR k 0 (R.take m)
theorem seqKM_next {L : List BX} {k m : Nat} {R : List Rec} {r : Rec} (hr : R[m]? = some r) (s : ByteArray) : lastN (seqKM L k R (m + 1)) s.data.toList = if r.bare = false ∧ r.key = s then some ⟨keyB r, k, m⟩ else lastN (seqKM L k R m) s.data.toList := by
  have hm := (List.getElem?_eq_some_iff.1 hr).1
  unfold seqKM
  rw [List.take_add_one, hr]
  show lastN (_ ++ seqR k 0 (R.take m ++ [r])) _ = _
  rw [seqR_snoc, List.length_take, Nat.min_eq_left (Nat.le_of_lt hm), Nat.zero_add]
  cases hb : r.bare with
  | true => rw [if_pos rfl, List.append_nil, if_neg (by simp)]
  | false =>
    rw [if_neg (by decide), ← List.append_assoc, lastN_snoc]
    by_cases hk : r.key = s
    · rw [if_pos (show keyB r = _ by unfold keyB; rw [hk]), if_pos ⟨rfl, hk⟩]
    · rw [if_neg (show ¬ keyB r = _ from fun e => hk (key_eq.1 e)), if_neg (fun e => hk e.2)]
theorem seqKM_full {L : List BX} {k : Nat} {x : BX} (hx : L[k]? = some x) : seqKM L k (bxR x) (bxR x).length = seqL 0 ((L.map bxR).take (k + 1)) := by
  have hk := (List.getElem?_eq_some_iff.1 hx).1
  unfold seqKM
  rw [List.take_length, List.take_add_one, List.getElem?_map, hx]
  show _ = seqL 0 (_ ++ [bxR x])
  rw [seqL_snoc, List.length_take, List.length_map, Nat.min_eq_left (Nat.le_of_lt hk), Nat.zero_add]
theorem seqKM_zero (L : List BX) (k : Nat) (R : List Rec) : seqKM L k R 0 = seqL 0 ((L.map bxR).take k) := by
  unfold seqKM
  rw [List.take_zero]
  show _ ++ [] = _
  rw [List.append_nil]
set_option maxHeartbeats 16000000 in
set_option maxRecDepth 100000 in
theorem rlatest_c (L : List BX) (A : Option Addr) (c : Nat) (s : ByteArray) (W : World) (h : BsIn W A L) (hl : L.length ≤ 1000) (hr : ∀ x ∈ L, x.2.1.length ≤ 1000) (hb : ∀ x ∈ L, ∀ y ∈ x.2.1, Pr.i64B (x.1.base + y.1.place)) :
    Calls Tryd.prog 11 #[.slice A L.length c, .string s] W (Good W (.tuple #[.int .i64 (valO L (lastN (seqL 0 (L.map bxR)) s.data.toList)).1, .bool (valO L (lastN (seqL 0 (L.map bxR)) s.data.toList)).2])) := by
  have HA := Lib.hid h
  have HR := Lib.hid hr
  have HB := Lib.hid hb
  clear h hr hb
  go_enter Tryd.func11, Tryd.ntmps11
  go_wp2_with fail
  go_loopw [6, 7, 8] (fun v f i wr => ∃ k : Nat, v = .int .i64 (valO L (lastN (seqL 0 ((L.map bxR).take k)) s.data.toList)).1 ∧ f = .bool (valO L (lastN (seqL 0 ((L.map bxR).take k)) s.data.toList)).2 ∧ i = .int .i64 k ∧ k ≤ L.length ∧ Below W.heap.size W wr) (fun _ _ i _ => L.length - (intOf i).toNat)
  case atStart => exact ⟨0, rfl, rfl, rfl, Nat.zero_le _, Below.refl _ _⟩
  case round =>
    obtain ⟨k, rfl, rfl, rfl, hk, hbw⟩ := hrel
    by_cases hkl : k < L.length
    · obtain ⟨x, hx⟩ : ∃ x, L[k]? = some x := ⟨_, List.getElem?_eq_getElem hkl⟩
      obtain ⟨b, off, rfl, hbl, hca⟩ := (HA.out.below hbw) (by omega)
      obtain ⟨⟨z0, z1, z2, z3, z4, z5⟩, hrs⟩ := hca k x hx
      have HRS := Lib.hid hrs
      have HXX := Lib.hid hx
      have HBW := Lib.hid hbw
      have hR := HR.out x (List.mem_of_getElem? hx)
      have HBB := Lib.hid (HB.out x (List.mem_of_getElem? hx))
      have HSF := Lib.hid (seqKM_full hx)
      have HSZ := Lib.hid (seqKM_zero L k (bxR x))
      have hki : (k : Int) < (L.length : Int) := by omega
      have hk0 : (0 : Int) ≤ (k : Int) := by omega
      obtain ⟨R', hR'⟩ : ∃ R', bxR x = R' := ⟨_, rfl⟩
      have HRR := Lib.hid hR'
      rw [hR'] at HSF HSZ
      obtain ⟨⟨base, span, prod, epoch, seq⟩, R, RA, rc⟩ := x
      dsimp only at *
      have HBZ := Lib.hid (And.intro (And.intro z0 z5) hbl)
      clear hca hx hrs hbw hR'
      generalize hk6 : k * 6 = k6 at *
      generalize hV : (valO L (lastN (seqL 0 ((L.map bxR).take k)) s.data.toList)) = V at *
      have HV := Lib.hid hV
      obtain ⟨V1, V2⟩ := V
      clear hV
      go_wp2_with fail
      clear z0 z1 z2 z3 z4 z5 hbl
      go_loopw [6, 7, 9] (fun v f j wr2 => ∃ (m : Nat) (U : Int × Bool), v = .int .i64 U.1 ∧ f = .bool U.2 ∧ j = .int .i64 m ∧ m ≤ R.length ∧ valO L (lastN (seqKM L k R' m) s.data.toList) = U ∧ Below wr.heap.size wr wr2) (fun _ _ j _ => R.length - (intOf j).toNat)
      case atStart => exact ⟨0, (V1, V2), rfl, rfl, rfl, Nat.zero_le _, by rw [HSZ.out]; exact HV.out, Below.refl _ _⟩
      case round =>
        obtain ⟨m, ⟨U1, U2⟩, rfl, rfl, rfl, hm, hU, hbw⟩ := hrel
        have y0 := (hbw.cell (p := ⟨b, off + k6, none⟩) HBZ.out.2).trans HBZ.out.1.1
        have y5 := (hbw.cell (p := ⟨b, off + k6 + 5, none⟩) HBZ.out.2).trans HBZ.out.1.2
        have hl1 := Nat.lt_of_lt_of_le HBZ.out.2 hbw.size
        have HU := Lib.hid hU
        by_cases hml : m < R.length
        · obtain ⟨y, hy⟩ : ∃ y, R[m]? = some y := ⟨_, List.getElem?_eq_getElem hml⟩
          obtain ⟨b3, off3, rfl, hbl3, hc3⟩ := (HRS.out.below hbw) (by omega)
          obtain ⟨⟨p0, p1, p2, p3, p4, p5, p6⟩, _⟩ := hc3 m y hy
          have hyr : R'[m]? = some y.1 := by rw [← HRR.out]; show (R.map (·.1))[m]? = _; rw [List.getElem?_map, hy]; rfl
          have HN := Lib.hid (seqKM_next (L := L) (k := k) hyr s)
          have hbb := HBB.out y (List.mem_of_getElem? hy)
          have HE := Lib.hid (valE_at (n := keyB y.1) HXX.out hy)
          have hmi : (m : Int) < (R.length : Int) := by omega
          have hm0 : (0 : Int) ≤ (m : Int) := by omega
          obtain ⟨⟨pl, tm, ba, ky, gn, va, hs⟩, hA2, hcc⟩ := y
          dsimp only at *
          unfold Pr.i64B at hbb
          obtain ⟨hbb1, hbb2⟩ := hbb
          have hal := hbw.alloc hbw.size (.cells #[.int .i64 pl, .int .i64 tm, .bool ba, .string ky, .bool gn, .string va, .slice hA2 hs.length hcc] 39)
          have HAL := Lib.hid hal
          clear hbw hc3 hy hyr hal hU
          generalize hm7 : m * 7 = m7 at *
          cases ba with
          | true =>
            go_wp2_with fail
            go_roundw
            case rel => exact ⟨m + 1, (U1, U2), rfl, rfl, by go_num, hml, by rw [HN.out, if_neg (fun e => by cases e.1)]; exact HU.out, HAL.out⟩
            case measure => simp [intOf]; omega
          | false =>
            by_cases hks : ky = s
            · have hse : (ky.toList == s.toList) = true := by rw [str_same]; exact decide_eq_true hks
              have HKS := Lib.hid hks
              clear hks
              go_wp2_with fail
              go_quiet (fail)
              go_wp2_with fail
              go_roundw
              case rel =>
                refine ⟨m + 1, (base + pl, true), rfl, rfl, by go_num, hml, ?_, HAL.out.trans ⟨rfl, rfl, rfl, Nat.le_refl _, fun _ _ => rfl⟩⟩
                rw [HN.out, if_pos (by first | exact HKS.out | exact ⟨rfl, HKS.out⟩ | simp [HKS.out])]
                show (valE L _, true) = _
                rw [HE.out]
              case measure => simp [intOf]; omega
            · have hse : (ky.toList == s.toList) = false := by rw [str_same]; exact decide_eq_false hks
              have HKS := Lib.hid hks
              clear hks
              go_wp2_with fail
              go_roundw
              case rel => exact ⟨m + 1, (U1, U2), rfl, rfl, by go_num, hml, by rw [HN.out, if_neg (fun e => HKS.out e.2)]; exact HU.out, HAL.out⟩
              case measure => simp [intOf]; omega
        · have hmi : ¬ (m : Int) < (R.length : Int) := by omega
          have hml2 : m = R'.length := by rw [← HRR.out, bxR_len]; show m = R.length; omega
          have HU2 : Hid (valO L (lastN (seqL 0 ((L.map bxR).take (k + 1))) s.data.toList) = (U1, U2)) := Lib.hid (by rw [← HSF.out, ← hml2]; exact hU)
          have HB2 := Lib.hid (HBW.out.trans (hbw.mono HBW.out.size))
          clear hbw hU hml2
          go_wp2_with fail
          go_roundw
          case rel => exact ⟨k + 1, by rw [HU2.out], by rw [HU2.out], by go_num, hkl, HB2.out⟩
          case measure => simp [intOf]; omega
    · have hki : ¬ (k : Int) < (L.length : Int) := by omega
      have e1 : (L.map bxR).take k = L.map bxR := List.take_of_length_le (by rw [List.length_map]; omega)
      have HBW := Lib.hid hbw
      rw [e1] at *
      clear hbw e1
      go_wp2_with fail
      go_ret2
      exact ⟨rfl, HBW.out⟩
end Go.Proofs.YtdclkhbolmbnmaaDoor
