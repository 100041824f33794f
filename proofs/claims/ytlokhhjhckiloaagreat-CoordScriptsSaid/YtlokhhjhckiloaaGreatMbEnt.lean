/- member: enter, begin, by contracts. No condition but that numbers are small. -/
import Derived.Test.YtlokhhjhckiloaaGreatMbFind
namespace Go.Proofs.YtlokhhjhckiloaaGreat
open Go.RowKit
set_option linter.unusedVariables false
/-- enter, begin. -/
def enterD (ph now : Int) (G : GD) : GD := if G.L = [] then { G with ph := 0, un := 0 } else { G with ph := ph, un := now + G.rb }
def beginD (now : Int) (G : GD) : GD := enterD 1 now { G with L := G.L.map fun x => { x with j := false, P := [] } }
/-- Numbers that a group may have. -/
structure GBd (G : GD) : Prop where
  len : G.L.length ≤ 100000
  ss : 0 ≤ G.ss ∧ G.ss ≤ 100000
  rb : 0 ≤ G.rb ∧ G.rb ≤ 100000
theorem time_bd {now : Int} (h : timeB now = true) : 0 ≤ now ∧ now ≤ 1099511627776 := by
  unfold timeB witB at h
  simpa using h
set_option maxHeartbeats 2000000 in
set_option maxRecDepth 100000 in
theorem enter_c (B p : Nat) (v : Value) (R : List MV) (G : GD) (ph now : Int) (W : World) (h : GrIs W B p v R G) (hG : GBd G) (hn : 0 ≤ now ∧ now ≤ 1099511627776) :
    Calls Tryz.prog 103 #[.pointer (some ⟨p, 0, none⟩), .int .i64 ph, .int .i64 now] W (Wr B p v W (enterD ph now G) (.tuple #[])) := by
  obtain ⟨b0, b1, b2, b3, b4, b5, b6, bl, f0, f1, f2, f3, f4⟩ := gr7 h.box
  obtain ⟨A, c, hv⟩ := own_slice h.row
  have hlen := h.len
  have hrb := hG.rb
  have hs0 := h.box.set 0 (.int .i64 ph)
  have hs3 := hs0.set 3 (.int .i64 (now + G.rb))
  have o0 := Off.one W ⟨p, 0, none⟩ (.int .i64 ph)
  have o3 := o0.set (p := ⟨p, 3, none⟩) (.inl (show p = p from rfl)) (.int .i64 (now + G.rb))
  have HI := Lib.hid h
  have HS3 := Lib.hid hs3
  have HO3 := Lib.hid o3
  subst hv
  by_cases hL : G.L = []
  · have hR : R.length = 0 := by rw [hlen, hL]; rfl
    rw [hR] at b4
    have hL' : enterD ph now G = { G with ph := 0, un := 0 } := by unfold enterD; rw [if_pos hL]
    rw [hL']
    have HL := Lib.hid hL
    clear hL hL' h hs0 hs3 o0 o3 hlen hG hR
    go_enter Tryz.func103, Tryz.ntmps103
    go_wp2
    go_end0
    have o5 := (HO3.out.set (p := ⟨p, 0, none⟩) (.inl (show p = p from rfl)) (.int .i64 0)).set (p := ⟨p, 3, none⟩) (.inl (show p = p from rfl)) (.int .i64 0)
    exact Wr.mk (HI.out.put (G' := { G with ph := 0, un := 0 }) o5 ((HS3.out.set 0 (.int .i64 0)).set 3 (.int .i64 0)) rfl) (o5.mono (fun _ _ e => .inl e)) (fun k hk => .inl hk)
  · have hR : 0 < R.length := by rw [hlen]; exact List.length_pos_iff.2 hL
    have hR' : ((R.length : Int) == 0) = false := beq_eq_false_iff_ne.2 (by omega)
    have hL' : enterD ph now G = { G with ph := ph, un := now + G.rb } := by unfold enterD; rw [if_neg hL]
    rw [hL']
    clear hL hL' h hs0 hs3 o0 o3 hlen hG hR
    go_enter Tryz.func103, Tryz.ntmps103
    go_wp2
    go_end0
    exact Wr.mk (HI.out.put (G' := { G with ph := ph, un := now + G.rb }) HO3.out HS3.out rfl) (HO3.out.mono (fun _ _ e => .inl e)) (fun k hk => .inl hk)
end Go.Proofs.YtlokhhjhckiloaaGreat
