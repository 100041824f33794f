/- idem: the reader's sent, by a contract. No condition. -/
import Derived.Test.YtdhakekndinbeaaImNo
namespace Go.Proofs.Ytdhakekndinbeaa
open Go.RowKit
set_option linter.unusedVariables false
/-- One of a window: its numbers, the place, the error. -/
def seI (s : ByteArray) (q e : Int) : SN × Int × Int :=
  (((nuI s 0 1073741824 q e).1, (nuI s 0 1099511627776 (nuI s 0 1073741824 q e).2.1 (nuI s 0 1073741824 q e).2.2).1,
    (nuI s 1 50 (nuI s 0 1099511627776 (nuI s 0 1073741824 q e).2.1 (nuI s 0 1073741824 q e).2.2).2.1 (nuI s 0 1099511627776 (nuI s 0 1073741824 q e).2.1 (nuI s 0 1073741824 q e).2.2).2.2).1),
   (nuI s 1 50 (nuI s 0 1099511627776 (nuI s 0 1073741824 q e).2.1 (nuI s 0 1073741824 q e).2.2).2.1 (nuI s 0 1099511627776 (nuI s 0 1073741824 q e).2.1 (nuI s 0 1073741824 q e).2.2).2.2).2)
theorem seI_of {s : ByteArray} {q e : Int} {r1 r2 r3 : Int × Int × Int} (h1 : nuI s 0 1073741824 q e = r1) (h2 : nuI s 0 1099511627776 r1.2.1 r1.2.2 = r2) (h3 : nuI s 1 50 r2.2.1 r2.2.2 = r3) : seI s q e = ((r1.1, r2.1, r3.1), r3.2) := by
  subst h1; subst h2; subst h3; rfl
theorem sent_result {w : World} (g : Nat) {v0 v1 v2 : Value} (h : Box w g 62 #[v0, v1, v2]) (tmps : Array Value) (ht : (tmps[2]?).getD undef = .pointer (some ⟨g, 0, none⟩)) :
    (results Try.f52 tmps).run Try.prog w = .ok (.agg #[v0, v1, v2]) w := by
  have c0 := (h.cell 0).trans (show _ = some v0 from rfl)
  have c1 := (h.cell 1).trans (show _ = some v1 from rfl)
  have c2 := (h.cell 2).trans (show _ = some v2 from rfl)
  simp [results, Try.results52, go_sem, ht, c0, c1, c2]
set_option maxHeartbeats 8000000 in
set_option maxRecDepth 100000 in
theorem sent_c (b : Nat) (s : ByteArray) (q e : Int) (W : World) (h : Box W b 79 (rdC s q e)) (hs : s.size ≤ 1152921504606846976) :
    Calls Try.prog 52 #[.pointer (some ⟨b, 0, none⟩)] W (Moved W b 79 (snV (seI s q e).1) s (seI s q e).2.1 (seI s q e).2.2) := by
  obtain ⟨r1, h1⟩ : ∃ r, nuI s 0 1073741824 q e = r := ⟨_, rfl⟩
  obtain ⟨r2, h2⟩ : ∃ r, nuI s 0 1099511627776 r1.2.1 r1.2.2 = r := ⟨_, rfl⟩
  obtain ⟨r3, h3⟩ : ∃ r, nuI s 1 50 r2.2.1 r2.2.2 = r := ⟨_, rfl⟩
  rw [seI_of h1 h2 h3]
  have k1 := fun w hw => inum_c b s q e 0 1073741824 w hw hs
  rw [h1] at k1
  have k2 := fun w hw => inum_c b s r1.2.1 r1.2.2 0 1099511627776 w hw hs
  rw [h2] at k2
  have k3 := fun w hw => inum_c b s r2.2.1 r2.2.2 1 50 w hw hs
  rw [h3] at k3
  clear h1 h2 h3
  obtain ⟨n1, p1, e1⟩ := r1
  obtain ⟨n2, p2, e2⟩ := r2
  obtain ⟨n3, p3, e3⟩ := r3
  unfold snV
  simp only at k1 k2 k3 ⊢
  have hlt := h.lt
  have hB1 : Below W.heap.size W (W.alloc (.cells #[.int .i64 0, .int .i64 0, .int .i64 0] 62)) := (Below.refl _ _).alloc (Nat.le_refl _) _
  have HA := Lib.hid (h.later hB1)
  have hB2 : Below (W.alloc (.cells #[.int .i64 0, .int .i64 0, .int .i64 0] 62)).heap.size (W.alloc (.cells #[.int .i64 0, .int .i64 0, .int .i64 0] 62)) ((W.alloc (.cells #[.int .i64 0, .int .i64 0, .int .i64 0] 62)).alloc (.cells #[.int .i64 0, .int .i64 0, .int .i64 0] 62)) := (Below.refl _ _).alloc (Nat.le_refl _) _
  have HC := Lib.hid (HA.out.later hB2)
  have HR := Lib.hid ((Box.new W 62 #[.int .i64 0, .int .i64 0, .int .i64 0]).later hB2)
  have HS := Lib.hid (Box.new (W.alloc (.cells #[.int .i64 0, .int .i64 0, .int .i64 0] 62)) 62 #[.int .i64 0, .int .i64 0, .int .i64 0])
  have hsz : (W.alloc (.cells #[.int .i64 0, .int .i64 0, .int .i64 0] 62)).heap.size = W.heap.size + 1 := Array.size_push ..
  rw [hsz] at HS
  have HO := Lib.hid (Off.of_below (fun k => k = b) (hB1.trans (hB2.mono hB1.size)))
  have hb1 : b ≠ W.heap.size := Nat.ne_of_lt hlt
  have hb2 : b ≠ W.heap.size + 1 := by omega
  have hb3 : W.heap.size ≠ W.heap.size + 1 := by omega
  clear h hB1 hB2 HA hsz
  go_enter Try.func52, Try.ntmps52
  go_wp2_with fail
  with_reducible refine (k1 _ HC.out).mono ?_
  rintro en w1 ⟨rfl, hx1, ho1⟩
  have HO1 := Lib.hid (HO.out.trans ho1 (fun i hi h => h))
  have HR1 := Lib.hid (HR.out.off ho1 (fun e => hb1 e.symm))
  have HS1 := Lib.hid (HS.out.off ho1 (fun e => hb2 e.symm))
  have fr1 := HS1.out.frozen 0
  have fc1 := (HS1.out.cell 0).trans (show _ = some (Value.int .i64 0) from rfl)
  have hlt1 := HS1.out.lt
  have hs1 : Off (fun k => k = W.heap.size + 1) w1 (w1.setCell ⟨W.heap.size + 1, 0, none⟩ (.int .i64 n1)) := Off.set (p := ⟨W.heap.size + 1, 0, none⟩) (Off.refl (fun k => k = W.heap.size + 1) w1) (.inl rfl) (.int .i64 n1)
  have HC1' := Lib.hid (hx1.off hs1 hb2)
  have HR1' := Lib.hid (HR1.out.off hs1 hb3)
  have HS1' := Lib.hid (HS1.out.set 0 (.int .i64 n1))
  have HO1' := Lib.hid (HO1.out.set (p := ⟨W.heap.size + 1, 0, none⟩) (.inr (Nat.le_succ _)) (.int .i64 n1))
  clear hx1 ho1 HO HR HS HC hs1 HO1 HR1 HS1
  go_wp2_with fail
  with_reducible refine (k2 _ HC1'.out).mono ?_
  rintro en w2 ⟨rfl, hx2, ho2⟩
  have HO2 := Lib.hid (HO1'.out.trans ho2 (fun i hi h => h))
  have HR2 := Lib.hid (HR1'.out.off ho2 (fun e => hb1 e.symm))
  have HS2 := Lib.hid (HS1'.out.off ho2 (fun e => hb2 e.symm))
  have fr2 := HS2.out.frozen 1
  have fc2 := (HS2.out.cell 1).trans (show _ = some (Value.int .i64 0) from rfl)
  have hlt2 := HS2.out.lt
  have hs2 : Off (fun k => k = W.heap.size + 1) w2 (w2.setCell ⟨W.heap.size + 1, 1, none⟩ (.int .i64 n2)) := Off.set (p := ⟨W.heap.size + 1, 1, none⟩) (Off.refl (fun k => k = W.heap.size + 1) w2) (.inl rfl) (.int .i64 n2)
  have HC2' := Lib.hid (hx2.off hs2 hb2)
  have HR2' := Lib.hid (HR2.out.off hs2 hb3)
  have HS2' := Lib.hid (HS2.out.set 1 (.int .i64 n2))
  have HO2' := Lib.hid (HO2.out.set (p := ⟨W.heap.size + 1, 1, none⟩) (.inr (Nat.le_succ _)) (.int .i64 n2))
  clear hx2 ho2 HO1' HR1' HS1' HC1' hs2 HO2 HR2 HS2
  go_wp2_with fail
  with_reducible refine (k3 _ HC2'.out).mono ?_
  rintro en w3 ⟨rfl, hx3, ho3⟩
  have HO3 := Lib.hid (HO2'.out.trans ho3 (fun i hi h => h))
  have HR3 := Lib.hid (HR2'.out.off ho3 (fun e => hb1 e.symm))
  have HS3 := Lib.hid (HS2'.out.off ho3 (fun e => hb2 e.symm))
  have fr3 := HS3.out.frozen 2
  have fc3 := (HS3.out.cell 2).trans (show _ = some (Value.int .i64 0) from rfl)
  have hlt3 := HS3.out.lt
  have hs3 : Off (fun k => k = W.heap.size + 1) w3 (w3.setCell ⟨W.heap.size + 1, 2, none⟩ (.int .i64 n3)) := Off.set (p := ⟨W.heap.size + 1, 2, none⟩) (Off.refl (fun k => k = W.heap.size + 1) w3) (.inl rfl) (.int .i64 n3)
  have HC3' := Lib.hid (hx3.off hs3 hb2)
  have HR3' := Lib.hid (HR3.out.off hs3 hb3)
  have HS3' := Lib.hid (HS3.out.set 2 (.int .i64 n3))
  have HO3' := Lib.hid (HO3.out.set (p := ⟨W.heap.size + 1, 2, none⟩) (.inr (Nat.le_succ _)) (.int .i64 n3))
  clear hx3 ho3 HO2' HR2' HS2' HC2' hs3 HO3 HR3 HS3
  have s0 := (HS3'.out.cell 0).trans (show _ = some (Value.int .i64 n1) from rfl)
  have s1 := (HS3'.out.cell 1).trans (show _ = some (Value.int .i64 n2) from rfl)
  have s2 := (HS3'.out.cell 2).trans (show _ = some (Value.int .i64 n3) from rfl)
  have r0 := (HR3'.out.cell 0).trans (show _ = some (Value.int .i64 0) from rfl)
  have r1 := (HR3'.out.cell 1).trans (show _ = some (Value.int .i64 0) from rfl)
  have r2 := (HR3'.out.cell 2).trans (show _ = some (Value.int .i64 0) from rfl)
  have f0 := HR3'.out.frozen 0
  have f1 := HR3'.out.frozen 1
  have f2 := HR3'.out.frozen 2
  have HZ := Lib.hid (((HR3'.out.set 0 (.int .i64 n1)).set 1 (.int .i64 n2)).set 2 (.int .i64 n3))
  have HOZ := Lib.hid (((Off.refl (fun k => k = W.heap.size) (w3.setCell ⟨W.heap.size + 1, 2, none⟩ (.int .i64 n3))).set (p := ⟨W.heap.size, 0, none⟩) (.inl rfl) (.int .i64 n1)).set (p := ⟨W.heap.size, 1, none⟩) (.inl rfl) (.int .i64 n2) |>.set (p := ⟨W.heap.size, 2, none⟩) (.inl rfl) (.int .i64 n3))
  have HCZ := Lib.hid (HC3'.out.off HOZ.out hb1)
  have HOF := Lib.hid (((HO3'.out.set (p := ⟨W.heap.size, 0, none⟩) (.inr (Nat.le_refl _)) (.int .i64 n1)).set (p := ⟨W.heap.size, 1, none⟩) (.inr (Nat.le_refl _)) (.int .i64 n2)).set (p := ⟨W.heap.size, 2, none⟩) (.inr (Nat.le_refl _)) (.int .i64 n3))
  go_wp2_with fail
  exact bodyPost_ret (v := .agg #[.int .i64 n1, .int .i64 n2, .int .i64 n3]) (sent_result W.heap.size HZ.out _ rfl) rfl ⟨rfl, HCZ.out, HOF.out⟩
end Go.Proofs.Ytdhakekndinbeaa
