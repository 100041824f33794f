/- The laws of the package record walk to true for every argument. -/
import Derived.Test.YtogfakcnjoilfaaRecRDec
import Derived.Test.YtogfakcnjoilfaaRecREnc
import Derived.Test.YtogfakcnjoilfaaRecSame
import Derived.Test.YtogfakcnjoilfaaRecLive
import Derived.Test.YtogfakcnjoilfaaRecOpen
namespace Go.Proofs.Ytogfakcnjoilfaa
open Go.RowKit
set_option linter.unusedVariables false
theorem decR_len (s : ByteArray) (p : Int) : (decR s p).1.heads.length ≤ 10 := by
  unfold decR
  split
  · exact Nat.zero_le _
  · split
    · exact rdHeads_len s p
    · exact Nat.zero_le _
theorem rdRec_small {s : ByteArray} {p : Int} : (decR s p).1.key.size ≤ 1000 ∧ (decR s p).1.value.size ≤ 1000 ∧ ∀ z ∈ (decR s p).1.heads, z.1.size ≤ 1000 ∧ z.2.size ≤ 1000 := by
  unfold decR
  split
  · exact ⟨Nat.zero_le 1000, Nat.zero_le 1000, fun z hz => by simp [recZero] at hz⟩
  · split
    · exact ⟨rdT_size _ _ _, rdT_size _ _ _, fun z hz => rdH_each _ _ _ _ z hz⟩
    · exact ⟨Nat.zero_le 1000, Nat.zero_le 1000, fun z hz => by simp [recZero] at hz⟩
theorem hin_alloc {w : World} {A : Option Addr} {hs : List Hd} (h : HIn w A hs) (o : Obj) : HIn (w.alloc o) A hs := h.below ((Below.refl _ _).alloc (Nat.le_refl _) _)
theorem recL_at {place time : Int} {bare gone : Bool} {key value : ByteArray} {A : Option Addr} {n c : Nat} {w : World} {b : Nat} (h : Box w b 24 #[.int .i64 place, .int .i64 time, .bool bare, .string key, .bool gone, .string value, .slice A n c]) :
    w.cell? ⟨b, 0, none⟩ = some (.int .i64 place) ∧ w.cell? ⟨b, 1, none⟩ = some (.int .i64 time) ∧ w.cell? ⟨b, 2, none⟩ = some (.bool bare) ∧ w.cell? ⟨b, 3, none⟩ = some (.string key) ∧ w.cell? ⟨b, 4, none⟩ = some (.bool gone) ∧ w.cell? ⟨b, 5, none⟩ = some (.string value) ∧ w.cell? ⟨b, 6, none⟩ = some (.slice A n c) :=
  ⟨(h.cell 0).trans rfl, (h.cell 1).trans rfl, (h.cell 2).trans rfl, (h.cell 3).trans rfl, (h.cell 4).trans rfl, (h.cell 5).trans rfl, (h.cell 6).trans rfl⟩
set_option maxHeartbeats 2000000 in
set_option maxRecDepth 100000 in
theorem recordDecodes_walk (a0 : ByteArray) (a1 : Int) (W : World) (s0 : a0.size ≤ 140737488351232) (w1 : (Lit.int .i64 a1).wf = true) :
    Calls Try.prog 4 #[.string a0, .int .i64 a1] W (Yes W) := by
  have c1 := fun w => pdec_c a0 a1 w (by omega)
  have c2 := fun w => rdec_c a0 a1 w (by omega)
  have hl := decR_len a0 a1
  clear w1
  generalize (decR a0 a1).1 = R at *
  generalize (decR a0 a1).2.1 = q at *
  generalize (decR a0 a1).2.2 = er at *
  have cs := fun A B c d w hA hB => rsame_c R A B c d w (by omega) hA hB
  obtain ⟨place, time, bare, key, gone, value, heads⟩ := R
  simp only at hl cs
  unfold recV recC at cs
  simp only at cs
  go_enter Try.func4, Try.ntmps4
  go_wp2_with fail
  (with_reducible refine (c1 _).mono ?_)
  rintro en w1 ⟨A1, d1, rfl, ho1, hb1⟩
  unfold recV recC
  simp only
  have H1 := Lib.hid (hin_alloc (hin_of_own ho1) (.cells #[.int .i64 place, .int .i64 time, .bool bare, .string key, .bool gone, .string value, .slice A1 heads.length d1] 24))
  have X1 := Lib.hid (Box.new w1 24 #[.int .i64 place, .int .i64 time, .bool bare, .string key, .bool gone, .string value, .slice A1 heads.length d1])
  have B1 := Lib.hid (hb1.alloc hb1.size (.cells #[.int .i64 place, .int .i64 time, .bool bare, .string key, .bool gone, .string value, .slice A1 heads.length d1] 24))
  clear ho1 hb1 c1
  go_wp2_with fail
  (with_reducible refine (c2 _).mono ?_)
  rintro en w2 ⟨A2, d2, rfl, ho2, hb2⟩
  unfold recV recC
  simp only
  have H2 := Lib.hid (hin_alloc (hin_of_own ho2) (.cells #[.int .i64 place, .int .i64 time, .bool bare, .string key, .bool gone, .string value, .slice A2 heads.length d2] 24))
  have H1' := Lib.hid (hin_alloc (H1.out.below hb2) (.cells #[.int .i64 place, .int .i64 time, .bool bare, .string key, .bool gone, .string value, .slice A2 heads.length d2] 24))
  have X2 := Lib.hid (Box.new w2 24 #[.int .i64 place, .int .i64 time, .bool bare, .string key, .bool gone, .string value, .slice A2 heads.length d2])
  have X1' := Lib.hid ((X1.out.later hb2).alloc (.cells #[.int .i64 place, .int .i64 time, .bool bare, .string key, .bool gone, .string value, .slice A2 heads.length d2] 24))
  have B2 := Lib.hid ((bjoin B1.out hb2 rfl rfl).alloc (Nat.le_trans B1.out.size hb2.size) (.cells #[.int .i64 place, .int .i64 time, .bool bare, .string key, .bool gone, .string value, .slice A2 heads.length d2] 24))
  clear ho2 hb2 c2 X1 H1 B1
  obtain ⟨y0, y1, y2, y3, y4, y5, y6⟩ := recL_at X1'.out
  go_wp2_with fail
  (with_reducible refine (cs _ _ _ _ _ H1'.out H2.out).mono ?_)
  rintro en w3 ⟨rfl, hb3⟩
  have B3 := Lib.hid (bjoin B2.out hb3 rfl rfl)
  clear hb3 y0 y1 y2 y3 y4 y5 y6 B2 cs
  go_wp2_with ((with_reducible refine (live_c _).mono ?_); rintro en w4 ⟨rfl, hb4⟩)
  go_ret
  exact ⟨rfl, bjoin B3.out hb4 rfl rfl⟩
set_option maxHeartbeats 2000000 in
set_option maxRecDepth 100000 in
theorem recordHeaders_walk (r : Rec) (A : Option Addr) (c : Nat) (a1 : ByteArray) (W : World) (hR : RIn W r A c) (hS : RSmall r) (s1 : a1.size ≤ 140737488351232) :
    Calls Try.prog 5 #[recV r A c, .string a1] W (Yes W) := by
  have hb0 : Below W.heap.size W (W.alloc (.cells (recC r A c) 24)) := (Below.refl _ _).alloc (Nat.le_refl _) _
  have hf := fun w => few_c r A c w hR.len
  have hp := fun w hx => phead_c r A c a1 w hx (fun h hh => by have := (hS.each h hh).2; omega)
  have hr := fun w hx => rhead_c r A c a1 w hx
  have X0 := Lib.hid (Box.new W 24 (recC r A c))
  have R0 := Lib.hid (hR.below hb0)
  have B0 := Lib.hid hb0
  clear hb0 hR hS
  unfold Sb at hp hr
  generalize (headerG r.heads a1).1 = hv at *
  generalize (headerG r.heads a1).2 = hh at *
  by_cases hfew : r.heads.length ≤ 20
  · rw [decide_eq_true hfew] at hf
    have HR := Lib.hid (fun (w w' : World) (hx : RIn w r A c) (hb : Below w.heap.size w w') => hx.below hb)
    obtain ⟨place, time, bare, key, gone, value, heads⟩ := r
    unfold recV recC at *
    simp only at *
    go_enter Try.func5, Try.ntmps5
    go_wp2_with fail
    (with_reducible refine (hf _).mono ?_)
    rintro en w1 ⟨rfl, hb1⟩
    have X1 := Lib.hid (X0.out.later hb1)
    have R1 := Lib.hid (HR.out _ _ R0.out hb1)
    have B1 := Lib.hid (bjoin B0.out hb1 rfl rfl)
    clear hb1 X0 R0 B0 hf
    obtain ⟨y0, y1, y2, y3, y4, y5, y6⟩ := recL_at X1.out
    go_wp2_with fail
    (with_reducible refine (hp _ R1.out).mono ?_)
    rintro en w2 ⟨rfl, hb2⟩
    have X2 := Lib.hid (X1.out.later hb2)
    have R2 := Lib.hid (HR.out _ _ R1.out hb2)
    have B2 := Lib.hid (bjoin B1.out hb2 rfl rfl)
    clear hb2 y0 y1 y2 y3 y4 y5 y6 X1 R1 B1 hp
    obtain ⟨y0, y1, y2, y3, y4, y5, y6⟩ := recL_at X2.out
    go_wp2_with fail
    (with_reducible refine (hr _ R2.out).mono ?_)
    rintro en w3 ⟨rfl, hb3⟩
    have B3 := Lib.hid (bjoin B2.out hb3 rfl rfl)
    clear hb3 y0 y1 y2 y3 y4 y5 y6 X2 R2 B2 hr
    go_wp2_with ((with_reducible refine (live_c _).mono ?_); rintro en w4 ⟨rfl, hb4⟩)
    go_ret
    exact ⟨rfl, bjoin B3.out hb4 rfl rfl⟩
  · rw [decide_eq_false hfew] at hf
    clear hfew hp hr
    obtain ⟨place, time, bare, key, gone, value, heads⟩ := r
    unfold recV recC at *
    simp only at *
    go_enter Try.func5, Try.ntmps5
    go_wp2_with fail
    (with_reducible refine (hf _).mono ?_)
    rintro en w1 ⟨rfl, hb1⟩
    have B1 := Lib.hid (bjoin B0.out hb1 rfl rfl)
    clear hb1 X0 R0 B0 hf
    go_wp2_with ((with_reducible refine (live_c _).mono ?_); rintro en w4 ⟨rfl, hb4⟩)
    go_ret
    exact ⟨rfl, bjoin B1.out hb4 rfl rfl⟩
set_option maxHeartbeats 2000000 in
set_option maxRecDepth 100000 in
theorem recordForth_walk (a0 : ByteArray) (a1 : Int) (W : World) (s0 : a0.size ≤ 140737488351232) (w1 : (Lit.int .i64 a1).wf = true) :
    Calls Try.prog 7 #[.string a0, .int .i64 a1] W (Yes W) := by
  have c1 := fun w => pdec_c a0 a1 w (by omega)
  by_cases he : (decR a0 a1).2.2 = 0
  · obtain ⟨hok, hsp⟩ := dec_ok he
    have hsz := @rdRec_small a0 a1
    rw [he] at c1
    have hbd := i64_bd w1
    have hx := hsp.extract
    obtain ⟨p0, p1, p2, _⟩ := hsp
    obtain ⟨m, rfl⟩ : ∃ m : Nat, a1 = m := ⟨a1.toNat, by omega⟩
    obtain ⟨t, ht⟩ : ∃ t : Nat, (decR a0 m).2.1 = t := ⟨(decR a0 m).2.1.toNat, by omega⟩
    rw [ht] at c1 p1 p2 hx
    rw [Int.toNat_natCast, Int.toNat_natCast] at hx
    have hl := decR_len a0 m
    have hen := fun A c w hR => enc_c (decR a0 m).1 A c w hR
    rw [if_pos hok, show recE (decR a0 m).1 = 0 by unfold recE; rw [hok]; rfl, show encR (decR a0 m).1 = a0.extract m t from hx.symm] at hen
    have hin : ∀ A c w, HIn w A (decR a0 m).1.heads → RIn w (decR a0 m).1 A c := fun A c w h => ⟨h, by omega, by have := (hsz).1; omega, by have := (hsz).2.1; omega, fun z hz => by have := (hsz).2.2 z hz; omega⟩
    have HI := Lib.hid hin
    clear hin hsz he ht hok hx w1
    generalize (decR a0 m).1 = R at *
    obtain ⟨place, time, bare, key, gone, value, heads⟩ := R
    unfold recV recC at hen
    simp only at hen hl
    have q1 : m ≤ t := by omega
    have q2 : t ≤ a0.size := by omega
    have hsl : ∀ w, (Instr.slice 9 (.string a0) (some (.int .i64 (m : Int))) (some (.int .i64 (t : Int))) none).run Try.prog w = .ok (.string (a0.extract m t)) w := fun w => slice_str w 9 a0 m t Try.underlying9 q1 q2
    generalize hX : a0.extract m t = X at *
    clear hX
    go_enter Try.func7, Try.ntmps7
    go_wp2_with fail
    (with_reducible refine (c1 _).mono ?_)
    rintro en w1 ⟨A, c, rfl, ho1, hb1⟩
    unfold recV recC
    simp only
    have H1 := Lib.hid (hin_alloc (hin_of_own ho1) (.cells #[.int .i64 place, .int .i64 time, .bool bare, .string key, .bool gone, .string value, .slice A heads.length c] 24))
    have B1 := Lib.hid (hb1.alloc hb1.size (.cells #[.int .i64 place, .int .i64 time, .bool bare, .string key, .bool gone, .string value, .slice A heads.length c] 24))
    clear ho1 hb1 c1
    go_wp2_with fail
    (with_reducible refine (hen _ _ _ (HI.out _ _ _ H1.out)).mono ?_)
    rintro en w2 ⟨rfl, hb2⟩
    have B2 := Lib.hid (bjoin B1.out hb2 rfl rfl)
    clear hb2 B1 H1 hen
    go_wp2_with ((with_reducible refine (live_c _).mono ?_); rintro en w4 ⟨rfl, hb4⟩)
    go_ret
    exact ⟨rfl, bjoin B2.out hb4 rfl rfl⟩
  · obtain ⟨e1, e2⟩ := dec_err he
    rw [e1, e2] at c1
    have k1 : ((decR a0 a1).2.2 == 0) = false := by rw [beq_eq_false_iff_ne]; exact he
    have k2 : ((decR a0 a1).2.2 != 0) = true := by simpa using he
    clear e1 e2 he w1
    generalize (decR a0 a1).2.2 = er at *
    go_enter Try.func7, Try.ntmps7
    go_wp2_with fail
    (with_reducible refine (c1 _).mono ?_)
    rintro en w1 ⟨A, c, rfl, ho1, hb1⟩
    unfold recV recC recZero
    simp only
    have B1 := Lib.hid (hb1.alloc hb1.size (.cells #[.int .i64 0, .int .i64 0, .bool false, .string ⟨#[]⟩, .bool false, .string ⟨#[]⟩, .slice A 0 c] 24))
    clear ho1 hb1 c1
    go_wp2_with ((with_reducible refine (live_c _).mono ?_); rintro en w4 ⟨rfl, hb4⟩)
    go_ret
    exact ⟨rfl, bjoin B1.out hb4 rfl rfl⟩
end Go.Proofs.Ytogfakcnjoilfaa
