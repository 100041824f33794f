/- clean: which record goes: the program's two closures, by contracts. No condition. -/
import Derived.Test.YtdclkhbolmbnmaaDoorClWo
import Derived.Laws.StructEq
import Derived.Shelf.SlicesE.Kit
namespace Go.Proofs.YtdclkhbolmbnmaaDoor
open Go.RowKit Go.Maps Go.ChangeMaps Go.WideMaps
set_option linter.unusedVariables false
set_option maxRecDepth 100000 in
theorem eqin_place (d : Nat) (a b i j : Int) (w : World) : (Op.equalIn (d + 2) 56 (.agg #[.int .i64 a, .int .i64 b]) (.agg #[.int .i64 i, .int .i64 j])).run Tryd.prog w = .ok (a == i && b == j) w := by
  have u3 := Tryd.underlying3
  have a3 := Tryd.isAgg3
  have z3 := Tryd.sizeOf3
  have hS : Tryd.prog.underlying 56 = some (.struct (Tryd.prog.fieldsOf 56)) := by kernel_rfl
  have hp : Tryd.prog.stoodInHeld 56 = false := by kernel_rfl
  rw [show d + 2 = (d + 1) + 1 from rfl, run_equalIn_agg w (d + 1) 56 _ _ hS hp]
  simp only [Program.fieldsOf, Tryd.underlying56]
  go_simp
  by_cases h1 : a = i <;> by_cases h2 : b = j <;> simp [h1, h2]
theorem place_neq (a b i j : Int) (w : World) : (binOp .neq 56 (.agg #[.int .i64 a, .int .i64 b]) (.agg #[.int .i64 i, .int .i64 j])).run Tryd.prog w = .ok (.bool (!(a == i && b == j))) w := by
  rw [run_neq_struct, show (10000 : Nat) = 9998 + 2 from rfl, eqin_place]; rfl
theorem place_guard (op : BinOp) (a b : Operand) (xs ys : Array Value) (w : World) : (eqGuard op 56 a b (.agg xs) (.agg ys)).run Tryd.prog w = .ok () w := run_eqGuard_agg w op 56 a b xs ys (by kernel_rfl)
def lookA (o : Option TE) : Int := match o with | some e => e.id | none => 0
def lookC (o : Option TE) : Int := match o with | some e => e.parts | none => 0
theorem lookV_eq (o : Option TE) : lookV o = .agg #[.int .i64 (lookA o), .int .i64 (lookC o)] := by cases o <;> rfl
/-- Whether a record goes. -/
def dropQ (F : List TE) (i before : Int) (j : Nat) (r : Rec) : Bool :=
  !r.bare && (!(lookA (ofN F (keyB r)) == i && lookC (ofN F (keyB r)) == (j : Int)) || (r.gone && decide (r.time < before)))
set_option maxHeartbeats 4000000 in
set_option maxRecDepth 100000 in
theorem never_c (j : Int) (W : World) : Calls Tryd.prog 22 #[.int .i64 j] W (Good W (.bool false)) := by
  go_enter Tryd.func22, Tryd.ntmps22
  go_wp2_with fail
  go_ret
  exact ⟨rfl, Below.refl _ _⟩
set_option maxHeartbeats 8000000 in
set_option maxRecDepth 100000 in
theorem drop_c (W : World) (bb kb ib tb : Nat) (m : Option Nat) (F : List TE) (bn : BN) (R : List RX) (A : Option Addr) (c : Nat) (i before : Int) (hB : Box W bb 29 (bnC bn (.slice A R.length c))) (hK : Box W kb 49 #[.map m]) (hI : Box W ib 3 #[.int .i64 i]) (hT : Box W tb 3 #[.int .i64 before])
    (hm : KmIs W m F) (hA : RsIn W A R) (j : Nat) (x : RX) (hx : R[j]? = some x) (hk : x.1.key.size ≤ maxLen) :
    Calls Tryd.prog 23 #[.int .i64 j, .pointer (some ⟨bb, 0, none⟩), .pointer (some ⟨kb, 0, none⟩), .pointer (some ⟨ib, 0, none⟩), .pointer (some ⟨tb, 0, none⟩)] W (Good W (.bool (dropQ F i before j x.1))) := by
  have hj := (List.getElem?_eq_some_iff.1 hx).1
  obtain ⟨b, off, rfl, hbl, hca⟩ := hA (by omega)
  obtain ⟨⟨x0, x1, x2, x3, x4, x5, x6⟩, hR⟩ := hca j x hx
  obtain ⟨⟨pl, tm, ba, ky, gn, va, hs⟩, hA2, hcc⟩ := x
  obtain ⟨base, span, prod, epoch, seq⟩ := bn
  dsimp only at *
  have y5 : W.cell? ⟨bb, 5, none⟩ = some (.slice (some ⟨b, off, none⟩) R.length c) := (hB.cell 5).trans rfl
  have k0 : W.cell? ⟨kb, 0, none⟩ = some (.map m) := (hK.cell 0).trans rfl
  have i0 : W.cell? ⟨ib, 0, none⟩ = some (.int .i64 i) := (hI.cell 0).trans rfl
  have t0 : W.cell? ⟨tb, 0, none⟩ = some (.int .i64 before) := (hT.cell 0).trans rfl
  have yl := hB.lt
  have kl := hK.lt
  have il := hI.lt
  have tl := hT.lt
  have hb1 : Below W.heap.size W (W.alloc (.cells #[.int .i64 pl, .int .i64 tm, .bool ba, .string ky, .bool gn, .string va, .slice hA2 hs.length hcc] 39)) := (Below.refl _ _).alloc (Nat.le_refl _) _
  have HM := Lib.hid (hm.later hb1)
  have hlook : Hid (∀ w, KmIs w m F → (Instr.lookup 49 (.map m) (.string ky) false).run Tryd.prog w = .ok (.agg #[.int .i64 (lookA (ofN F ky.data.toList)), .int .i64 (lookC (ofN F ky.data.toList))]) w) := Lib.hid (fun w hw => by rw [← lookV_eq]; exact look_any hw ky hk false)
  have hl1 := hlook.out _ HM.out
  have HB := Lib.hid hb1
  have hji : (j : Int) < (R.length : Int) := by omega
  have hj0 : (0 : Int) ≤ (j : Int) := by omega
  have hD : dropQ F i before j ⟨pl, tm, ba, ky, gn, va, hs⟩ = (!ba && (!(lookA (ofN F ky.data.toList) == i && lookC (ofN F ky.data.toList) == (j : Int)) || (gn && decide (tm < before)))) := rfl
  have HD := Lib.hid hD
  have hgd := fun (a b : Operand) w => place_guard .neq a b #[.int .i64 (lookA (ofN F ky.data.toList)), .int .i64 (lookC (ofN F ky.data.toList))] #[.int .i64 i, .int .i64 j] w
  have hneq := fun w => place_neq (lookA (ofN F ky.data.toList)) (lookC (ofN F ky.data.toList)) i j w
  clear hca hx hR hB hK hI hT hm hD hlook hk hb1
  generalize lookA (ofN F ky.data.toList) = q1 at *
  generalize lookC (ofN F ky.data.toList) = q2 at *
  generalize hj7 : j * 7 = j7 at *
  generalize hdd : dropQ F i before j ⟨pl, tm, ba, ky, gn, va, hs⟩ = dd at *
  cases ba with
  | true =>
    have : dd = false := HD.out
    subst this
    go_enter Tryd.func23, Tryd.ntmps23
    go_wp2_with fail
    go_ret
    exact ⟨rfl, HB.out⟩
  | false =>
    cases hq : (q1 == i && q2 == (j : Int)) with
    | false =>
      simp only [hq, Bool.not_false] at hneq
      rw [hq] at HD
      have : dd = true := HD.out
      subst this
      clear hq
      go_enter Tryd.func23, Tryd.ntmps23
      go_wp2_with fail
      go_ret
      exact ⟨rfl, HB.out⟩
    | true =>
      simp only [hq, Bool.not_true] at hneq
      rw [hq] at HD
      clear hq
      cases gn with
      | false =>
        have : dd = false := HD.out
        subst this
        go_enter Tryd.func23, Tryd.ntmps23
        go_wp2_with fail
        go_ret
        exact ⟨rfl, HB.out⟩
      | true =>
        have : dd = decide (tm < before) := HD.out
        subst this
        go_enter Tryd.func23, Tryd.ntmps23
        go_wp2_with fail
        go_ret
        exact ⟨rfl, HB.out⟩
end Go.Proofs.YtdclkhbolmbnmaaDoor
