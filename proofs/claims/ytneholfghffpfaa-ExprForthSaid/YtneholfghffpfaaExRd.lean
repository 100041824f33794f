/- expr: the reader of the program: byte, demand. -/
import Derived.Test.YtneholfghffpfaaNum
import Derived.Test.YtneholfghffpfaaMem
import Derived.BigQuiet
namespace Go.Proofs.Ytneholfghffpfaa
open Go.RowKit
set_option linter.unusedVariables false
def xrC (s : ByteArray) (p n e : Int) : Array Value := #[.string s, .int .i64 p, .int .i64 n, .int .i64 e]
/-- The next byte: what it is, and where the reader stands then. -/
def byteG (s : ByteArray) (p e : Int) : Int × Int × Int :=
  if e ≠ 0 then (0, p, e) else if p = s.size then (0, p, 2) else (((s.data.getD p.toNat 0).toNat : Int), p + 1, 0)
def demG (e : Int) (r : Bool) : Int := if e = 0 ∧ r = false then 3 else e
def Xread (W : World) (b : Nat) (ty : TypeId) (v : Value) (s : ByteArray) (p n e : Int) (en : Ending) (w' : World) : Prop := en = .returned v ∧ Box w' b ty (xrC s p n e) ∧ Off (· = b) W w'
theorem Box.xr {w : World} {b : Nat} {ty : TypeId} {s : ByteArray} {p n e : Int} (h : Box w b ty (xrC s p n e)) :
    w.cell? ⟨b, 0, none⟩ = some (.string s) ∧ w.cell? ⟨b, 1, none⟩ = some (.int .i64 p) ∧ w.cell? ⟨b, 2, none⟩ = some (.int .i64 n) ∧ w.cell? ⟨b, 3, none⟩ = some (.int .i64 e) ∧
    w.frozen? ⟨b, 0, none⟩ = false ∧ w.frozen? ⟨b, 1, none⟩ = false ∧ w.frozen? ⟨b, 2, none⟩ = false ∧ w.frozen? ⟨b, 3, none⟩ = false :=
  ⟨h.cell 0, h.cell 1, h.cell 2, h.cell 3, h.frozen 0, h.frozen 1, h.frozen 2, h.frozen 3⟩
theorem Box.xrD {w : World} {b : Nat} {ty : TypeId} {s : ByteArray} {p n e : Int} (h : Box w b ty (xrC s p n e)) :
    w.drew.cell? ⟨b, 0, none⟩ = some (.string s) ∧ w.drew.cell? ⟨b, 1, none⟩ = some (.int .i64 p) := ⟨h.drew.cell 0, h.drew.cell 1⟩
set_option maxHeartbeats 1000000 in
set_option maxRecDepth 100000 in
theorem xdem_c (s : ByteArray) (p n e : Int) (r : Bool) (b : Nat) (W : World) (h : Box W b 56 (xrC s p n e)) :
    Calls Try.prog 35 #[.pointer (some ⟨b, 0, none⟩), .bool r] W (fun en w' => en = .returned (.tuple #[]) ∧ Box w' b 56 (xrC s p n (demG e r)) ∧ Off (· = b) W w') := by
  obtain ⟨c0, c1, c2, c3, f0, f1, f2, f3⟩ := h.xr
  have HB := Lib.hid h
  clear h
  by_cases he : e = 0
  · subst he
    cases r with
    | true =>
      have hd : Hid (demG 0 true = 0) := Lib.hid rfl
      go_enter Try.func35, Try.ntmps35
      go_wp2_with fail
      go_end0
      exact ⟨rfl, by rw [hd.out]; exact HB.out, Off.refl (· = b) W⟩
    | false =>
      have hd : Hid (demG 0 false = 3) := Lib.hid rfl
      go_enter Try.func35, Try.ntmps35
      go_wp2_with fail
      go_end0
      exact ⟨rfl, by rw [hd.out]; exact HB.out.set 3 _, (Off.refl (· = b) W).set (.inl rfl) _⟩
  · have hd : Hid (demG e r = e) := Lib.hid (by unfold demG; rw [if_neg (fun x => he x.1)])
    have e1 : (e == 0) = false := by rw [beq_eq_false_iff_ne]; exact he
    have e2 : (e != 0) = true := by simpa using he
    clear he
    go_enter Try.func35, Try.ntmps35
    go_wp2_with fail
    go_end0
    exact ⟨rfl, by rw [hd.out]; exact HB.out, Off.refl (· = b) W⟩
set_option maxHeartbeats 1000000 in
set_option maxRecDepth 100000 in
theorem xbyte_c (s : ByteArray) (p n e : Int) (b : Nat) (W : World) (hs : s.size ≤ 1152921504606846976) (hp : 0 ≤ p ∧ p ≤ s.size) (h : Box W b 56 (xrC s p n e)) :
    Calls Try.prog 45 #[.pointer (some ⟨b, 0, none⟩)] W (Xread W b 56 (.int .i64 (byteG s p e).1) s (byteG s p e).2.1 n (byteG s p e).2.2) := by
  generalize hR : byteG s p e = R
  unfold byteG at hR
  obtain ⟨p0, p1⟩ := hp
  obtain ⟨c0, c1, c2, c3, f0, f1, f2, f3⟩ := h.xr
  have HB := Lib.hid h
  by_cases he : e = 0
  · subst he
    by_cases hps : p = s.size
    · have HR : Hid (R = (0, p, 2)) := Lib.hid (by rw [← hR, if_neg (by simp), if_pos hps])
      clear hR h
      go_enter Try.func45, Try.ntmps45
      go_wp2_with fail
      go_quiet (fail)
      go_wp2_with fail
      go_ret
      rw [HR.out]
      exact ⟨rfl, (HB.out.drewN _).set 3 _, ((Off.refl (· = b) W).drewN _).set (.inl rfl) _⟩
    · obtain ⟨k, rfl⟩ : ∃ k : Nat, p = (k : Int) := ⟨p.toNat, by omega⟩
      have hk : k < s.size := by omega
      have HR : Hid (R = (((s[k]).toNat : Int), (k : Int) + 1, 0)) := Lib.hid (by rw [← hR, if_neg (by simp), if_neg hps]; simp [Array.getD, hk, ByteArray.getElem_eq_getElem_data])
      have hk2 : (k : Int) < (s.size : Int) := by omega
      clear hR h hps p0 p1
      go_enter Try.func45, Try.ntmps45
      go_wp2_with fail
      go_quiet (fail)
      go_wp2_with fail
      have hw : IntKind.i64.wrap ((k : Int) + 1 - 1) = (k : Int) := by rw [IntKind.wrap_i64]; omega
      go_quiet (fail)
      go_wp2_with fail
      have hw2 : wrap64 (((s[k]).toNat : Nat) : Int) = (((s[k]).toNat : Nat) : Int) := by
        have h1 : (s[k]).toNat < 256 := (s[k]).toNat_lt
        generalize (s[k]).toNat = c at *
        unfold wrap64
        omega
      go_ret
      rw [HR.out]
      refine ⟨?_, ((HB.out.drewN _).set 1 _).drewN _, (((Off.refl (· = b) W).drewN _).set (.inl rfl) _).drewN _⟩
      exact congrArg (fun b => Ending.returned (.int .i64 b)) hw2
  · have HR : Hid (R = (0, p, e)) := Lib.hid (by rw [← hR, if_pos he])
    have e1 : (e == 0) = false := by rw [beq_eq_false_iff_ne]; exact he
    have e2 : (e != 0) = true := by simpa using he
    clear hR h he
    go_enter Try.func45, Try.ntmps45
    go_wp2_with fail
    go_ret
    rw [HR.out]
    exact ⟨rfl, HB.out, Off.refl _ _⟩
set_option maxHeartbeats 1000000 in
set_option maxRecDepth 100000 in
theorem rbyte_c (s : ByteArray) (p n e : Int) (b : Nat) (W : World) (hs : s.size ≤ 1152921504606846976) (hp : 0 ≤ p ∧ p ≤ s.size) (h : Box W b 61 (xrC s p n e)) :
    Calls Try.prog 47 #[.pointer (some ⟨b, 0, none⟩)] W (Xread W b 61 (.int .i64 (byteG s p e).1) s (byteG s p e).2.1 n (byteG s p e).2.2) := by
  generalize hR : byteG s p e = R
  unfold byteG at hR
  obtain ⟨p0, p1⟩ := hp
  obtain ⟨c0, c1, c2, c3, f0, f1, f2, f3⟩ := h.xr
  have HB := Lib.hid h
  by_cases he : e = 0
  · subst he
    by_cases hps : p = s.size
    · have HR : Hid (R = (0, p, 2)) := Lib.hid (by rw [← hR, if_neg (by simp), if_pos hps])
      have hge : (s.size : Int) ≤ p := by omega
      clear hR h
      go_enter Try.func47, Try.ntmps47
      go_wp2_with fail
      go_quiet (fail)
      go_wp2_with fail
      go_ret
      rw [HR.out]
      exact ⟨rfl, (HB.out.drewN _).set 3 _, ((Off.refl (· = b) W).drewN _).set (.inl rfl) _⟩
    · obtain ⟨k, rfl⟩ : ∃ k : Nat, p = (k : Int) := ⟨p.toNat, by omega⟩
      have hk : k < s.size := by omega
      have HR : Hid (R = (((s[k]).toNat : Int), (k : Int) + 1, 0)) := Lib.hid (by rw [← hR, if_neg (by simp), if_neg hps]; simp [Array.getD, hk, ByteArray.getElem_eq_getElem_data])
      have hk2 : (k : Int) < (s.size : Int) := by omega
      clear hR h hps p0 p1
      go_enter Try.func47, Try.ntmps47
      go_wp2_with fail
      go_quiet (fail)
      go_wp2_with fail
      have hw : IntKind.i64.wrap ((k : Int) + 1 - 1) = (k : Int) := by rw [IntKind.wrap_i64]; omega
      go_quiet (fail)
      go_wp2_with fail
      have hw2 : wrap64 (((s[k]).toNat : Nat) : Int) = (((s[k]).toNat : Nat) : Int) := by
        have h1 : (s[k]).toNat < 256 := (s[k]).toNat_lt
        generalize (s[k]).toNat = c at *
        unfold wrap64
        omega
      go_ret
      rw [HR.out]
      refine ⟨?_, ((HB.out.drewN _).set 1 _).drewN _, (((Off.refl (· = b) W).drewN _).set (.inl rfl) _).drewN _⟩
      exact congrArg (fun b => Ending.returned (.int .i64 b)) hw2
  · have HR : Hid (R = (0, p, e)) := Lib.hid (by rw [← hR, if_pos he])
    have e1 : (e == 0) = false := by rw [beq_eq_false_iff_ne]; exact he
    have e2 : (e != 0) = true := by simpa using he
    clear hR h he
    go_enter Try.func47, Try.ntmps47
    go_wp2_with fail
    go_ret
    rw [HR.out]
    exact ⟨rfl, HB.out, Off.refl _ _⟩
end Go.Proofs.Ytneholfghffpfaa
