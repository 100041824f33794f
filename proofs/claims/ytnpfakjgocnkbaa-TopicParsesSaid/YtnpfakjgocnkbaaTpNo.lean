/- topic: the reader's demand, number, name, entry, by contracts. No condition. -/
import Derived.Test.YtnpfakjgocnkbaaTpOrd
import Derived.Test.YtnpfakjgocnkbaaTpCr
import Derived.Test.YtnpfakjgocnkbaaRdBox
import Derived.Test.YtnpfakjgocnkbaaPGet
namespace Go.Proofs.Ytnpfakjgocnkbaa
open Go.RowKit
set_option linter.unusedVariables false
theorem r2_later {w w' : World} {b : Nat} {u v : Value} (h : w.cell? ⟨b, 0, none⟩ = some u ∧ w.cell? ⟨b, 1, none⟩ = some v ∧ b < w.heap.size) (hb : Below w.heap.size w w') :
    w'.cell? ⟨b, 0, none⟩ = some u ∧ w'.cell? ⟨b, 1, none⟩ = some v ∧ b < w'.heap.size :=
  ⟨(hb.cell (p := ⟨b, 0, none⟩) h.2.2).trans h.1, (hb.cell (p := ⟨b, 1, none⟩) h.2.2).trans h.2.1, Nat.lt_of_lt_of_le h.2.2 hb.size⟩
theorem rdC_set12 {w : World} {b : Nat} {t : TypeId} {s : ByteArray} {q e q' e' : Int} (h : Box w b t (rdC s q e)) : Box ((w.setCell ⟨b, 1, none⟩ (.int .i64 q')).setCell ⟨b, 2, none⟩ (.int .i64 e')) b t (rdC s q' e') := (h.set 1 _).set 2 _
set_option maxHeartbeats 4000000 in
set_option maxRecDepth 100000 in
theorem demand_c (b : Nat) (s : ByteArray) (q e : Int) (r : Bool) (W : World) (h : Box W b 64 (rdC s q e)) : Calls Try.prog 40 #[.pointer (some ⟨b, 0, none⟩), .bool r] W (Done W b 64 s q (demE e r)) := by
  obtain ⟨x0, x1, x2, f1, f2⟩ := h.rd0
  have hlt := h.lt
  unfold demE
  by_cases he : e = 0
  · subst he
    cases r with
    | true =>
      rw [if_neg (by simp)]
      go_enter Try.func40, Try.ntmps40
      go_wp2_with fail
      go_end0
      exact ⟨rfl, h, Off.refl _ _⟩
    | false =>
      rw [if_pos ⟨rfl, rfl⟩]
      have H := Lib.hid h
      clear h
      go_enter Try.func40, Try.ntmps40
      go_wp2_with fail
      go_end0
      exact ⟨rfl, H.out.set 2 _, Off.set (p := ⟨b, 2, none⟩) (Off.refl (fun k => k = b) W) (.inl rfl) _⟩
  · have he1 : (e == (0 : Int)) = false := by simp [he]
    rw [if_neg (fun x => he x.1)]
    have H := Lib.hid h
    clear h he
    go_enter Try.func40, Try.ntmps40
    go_wp2_with fail
    go_end0
    exact ⟨rfl, H.out, Off.refl _ _⟩
set_option maxHeartbeats 8000000 in
set_option maxRecDepth 100000 in
theorem tnum_c (b : Nat) (s : ByteArray) (q e l m : Int) (W : World) (h : Box W b 64 (rdC s q e)) (hs : s.size ≤ 1152921504606846976) :
    Calls Try.prog 37 #[.pointer (some ⟨b, 0, none⟩), .int .i64 l, .int .i64 m] W (Moved W b 64 (.int .i64 (nuT s l m q e).1) s (nuT s l m q e).2.1 (nuT s l m q e).2.2) := by
  obtain ⟨x0, x1, x2, _, _⟩ := h.rd0
  have hlt := h.lt
  unfold nuT
  by_cases he : e = 0
  · subst he
    rw [if_pos rfl]
    have cg := fun w => get_c s q w hs
    generalize getG s q = g at *
    obtain ⟨n, p, er⟩ := g
    simp only at cg ⊢
    unfold Tri at cg
    have cw := fun w => within_c n l m w
    have H0 := Lib.hid h
    clear h
    have hS := And.intro x0 (And.intro x1 hlt)
    clear x0 x1
    obtain ⟨r, hr⟩ : ∃ r, witB n l m = r := ⟨_, rfl⟩
    rw [hr] at cw ⊢
    clear hr
    have cd := fun w hw => demand_c b s p er r w hw
    have hpost : ∃ v er', demE er r = er' ∧ (if er' = 0 then v = n else v = 0) ∧ (if er = 0 then (if r = true then (n, p, 0) else (0, p, 3)) else (0, p, er)) = (v, p, er') := by
      unfold demE
      by_cases hz : er = 0
      · subst hz
        cases r
        · exact ⟨0, 3, rfl, rfl, rfl⟩
        · exact ⟨n, 0, rfl, rfl, rfl⟩
      · refine ⟨0, er, by rw [if_neg (fun x => hz x.1)], by rw [if_neg hz], by rw [if_neg hz]⟩
    obtain ⟨v, er', hd, hv, ht⟩ := hpost
    rw [ht]
    rw [hd] at cd
    clear ht hd
    by_cases hz : er' = 0
    · rw [if_pos hz] at hv
      subst hv hz
      go_enter Try.func37, Try.ntmps37
      go_wp2_with fail
      go_region_held3 (fun w => w.cell? ⟨b, 0, none⟩ = some (.string s) ∧ w.cell? ⟨b, 1, none⟩ = some (.int .i64 q) ∧ b < w.heap.size) (first | exact hS | exact r2_later hS hbA)
        (first | ((with_reducible refine (cg _).mono ?_); rintro en w4 ⟨rfl, hw4⟩; have hbA : Below W.heap.size W w4 := hw4 ▸ (Below.refl _ W).drew))
      all_goals
        have HX4 := Lib.hid (rdC_set12 (q' := p) (e' := er) (H0.out.later hbA))
        have HO4 := Lib.hid ((((Off.of_below (fun k => k = b) hbA).set (p := ⟨b, 1, none⟩) (.inl rfl) (.int .i64 p))).set (p := ⟨b, 2, none⟩) (.inl rfl) (.int .i64 er))
        obtain ⟨y0, y1, y2, f1, f2⟩ := (H0.out.later hbA).rd0
        have hlt4 := (H0.out.later hbA).lt
        clear hbA hw4
        go_wp2_with fail
        with_reducible refine (cw _).mono ?_
        rintro en w5 ⟨rfl, hw5⟩
        have hw5' := hw5.symm
        subst hw5'
        go_wp2_with fail
        with_reducible refine (cd _ HX4.out).mono ?_
        rintro en w6 ⟨rfl, h6, o6⟩
        obtain ⟨z0, z1, z2, _, _⟩ := h6.rd0
        have H6 := Lib.hid h6
        have HO6 := Lib.hid (HO4.out.trans o6 (fun i hi h => h))
        clear h6 o6
        go_wp2_with fail
        go_ret
        exact ⟨rfl, H6.out, HO6.out⟩
    · rw [if_neg hz] at hv
      subst hv
      have hz1 : (er' == (0 : Int)) = false := by simp [hz]
      clear hz
      go_enter Try.func37, Try.ntmps37
      go_wp2_with fail
      go_region_held3 (fun w => w.cell? ⟨b, 0, none⟩ = some (.string s) ∧ w.cell? ⟨b, 1, none⟩ = some (.int .i64 q) ∧ b < w.heap.size) (first | exact hS | exact r2_later hS hbA)
        (first | ((with_reducible refine (cg _).mono ?_); rintro en w4 ⟨rfl, hw4⟩; have hbA : Below W.heap.size W w4 := hw4 ▸ (Below.refl _ W).drew))
      all_goals
        have HX4 := Lib.hid (rdC_set12 (q' := p) (e' := er) (H0.out.later hbA))
        have HO4 := Lib.hid ((((Off.of_below (fun k => k = b) hbA).set (p := ⟨b, 1, none⟩) (.inl rfl) (.int .i64 p))).set (p := ⟨b, 2, none⟩) (.inl rfl) (.int .i64 er))
        obtain ⟨y0, y1, y2, f1, f2⟩ := (H0.out.later hbA).rd0
        have hlt4 := (H0.out.later hbA).lt
        clear hbA hw4
        go_wp2_with fail
        with_reducible refine (cw _).mono ?_
        rintro en w5 ⟨rfl, hw5⟩
        have hw5' := hw5.symm
        subst hw5'
        go_wp2_with fail
        with_reducible refine (cd _ HX4.out).mono ?_
        rintro en w6 ⟨rfl, h6, o6⟩
        obtain ⟨z0, z1, z2, _, _⟩ := h6.rd0
        have H6 := Lib.hid h6
        have HO6 := Lib.hid (HO4.out.trans o6 (fun i hi h => h))
        clear h6 o6
        go_wp2_with fail
        go_ret
        exact ⟨rfl, H6.out, HO6.out⟩
  · rw [if_neg he]
    have he1 : (e == (0 : Int)) = false := by simp [he]
    go_enter Try.func37, Try.ntmps37
    go_wp2_with fail
    go_ret
    exact ⟨rfl, h, Off.refl _ _⟩
set_option maxHeartbeats 8000000 in
set_option maxRecDepth 100000 in
theorem tname_c (b : Nat) (s a : ByteArray) (q e : Int) (W : World) (h : Box W b 64 (rdC s q e)) (hs : s.size ≤ 1152921504606846976) :
    Calls Try.prog 38 #[.pointer (some ⟨b, 0, none⟩), .string a] W (Moved W b 64 (.string (naT s a.data.toList q e).1) s (naT s a.data.toList q e).2.1 (naT s a.data.toList q e).2.2) := by
  obtain ⟨x0, x1, x2, _, _⟩ := h.rd0
  have hlt := h.lt
  unfold naT
  by_cases he : e = 0
  · subst he
    rw [if_pos rfl]
    have cg := fun w => take_c s q 100 w hs (by omega)
    generalize takeG s q 100 = g at *
    obtain ⟨n, p, er⟩ := g
    simp only at cg ⊢
    unfold Good Sri at cg
    have H0 := Lib.hid h
    clear h
    have hS := And.intro x0 (And.intro x1 hlt)
    clear x0 x1
    obtain ⟨r, hr⟩ : ∃ r, bytesBefore a.data.toList n.data.toList = r := ⟨_, rfl⟩
    have HGB := Lib.hid ((greater_before n a).trans hr)
    have cd := fun w hw => demand_c b s p er r w hw
    have hpost : demE er r = (if er = 0 ∧ r = false then 3 else er) := rfl
    rw [hpost] at cd
    rw [hr]
    clear hr
    generalize (if er = 0 ∧ r = false then 3 else er) = er' at *
    clear hpost
    go_enter Try.func38, Try.ntmps38
    go_wp2_with fail
    go_region_held3 (fun w => w.cell? ⟨b, 0, none⟩ = some (.string s) ∧ w.cell? ⟨b, 1, none⟩ = some (.int .i64 q) ∧ b < w.heap.size) (first | exact hS | exact r2_later hS hbA)
      (first | ((with_reducible refine (cg _).mono ?_); rintro en w4 ⟨rfl, hw4⟩; have hbA : Below W.heap.size W w4 := (Below.refl _ W).drew.trans (hw4.mono (Nat.le_refl _))))
    all_goals
      have HX4 := Lib.hid (rdC_set12 (q' := p) (e' := er) (H0.out.later hbA))
      have HO4 := Lib.hid ((((Off.of_below (fun k => k = b) hbA).set (p := ⟨b, 1, none⟩) (.inl rfl) (.int .i64 p))).set (p := ⟨b, 2, none⟩) (.inl rfl) (.int .i64 er))
      obtain ⟨y0, y1, y2, f1, f2⟩ := (H0.out.later hbA).rd0
      have hlt4 := (H0.out.later hbA).lt
      clear hbA hw4
      go_wp2_with fail
      rw [HGB.out]
      with_reducible refine (cd _ HX4.out).mono ?_
      rintro en w6 ⟨rfl, h6, o6⟩
      have H6 := Lib.hid h6
      have HO6 := Lib.hid (HO4.out.trans o6 (fun i hi h => h))
      clear h6 o6
      go_wp2_with fail
      go_ret
      exact ⟨rfl, H6.out, HO6.out⟩
  · rw [if_neg he]
    have he1 : (e == (0 : Int)) = false := by simp [he]
    go_enter Try.func38, Try.ntmps38
    go_wp2_with fail
    go_ret
    exact ⟨rfl, h, Off.refl _ _⟩
theorem entry_result {w : World} (g : Nat) {v0 v1 : Value} (h : Box w g 59 #[v0, v1]) (tmps : Array Value) (ht : (tmps[4]?).getD undef = .pointer (some ⟨g, 0, none⟩)) :
    (results Try.f39 tmps).run Try.prog w = .ok (.agg #[v0, v1]) w := by
  have c0 := (h.cell 0).trans (show _ = some v0 from rfl)
  have c1 := (h.cell 1).trans (show _ = some v1 from rfl)
  simp [results, Try.results39, go_sem, ht, c0, c1]
set_option maxHeartbeats 8000000 in
set_option maxRecDepth 100000 in
theorem tentry_c (b : Nat) (s : ByteArray) (n q e : Int) (W : World) (h : Box W b 64 (rdC s q e)) (hs : s.size ≤ 1152921504606846976) :
    Calls Try.prog 39 #[.pointer (some ⟨b, 0, none⟩), .int .i64 n] W (Moved W b 64 (.agg #[.int .i64 (enT s n q e).1.1, .int .i64 (enT s n q e).1.2]) s (enT s n q e).2.1 (enT s n q e).2.2) := by
  unfold enT
  have k1 := fun w hw => tnum_c b s q e 0 n w hw hs
  generalize nuT s 0 n q e = r1 at *
  have k2 := fun w hw => tnum_c b s r1.2.1 r1.2.2 1 16 w hw hs
  generalize nuT s 1 16 r1.2.1 r1.2.2 = r2 at *
  obtain ⟨n1, p1, e1⟩ := r1
  obtain ⟨n2, p2, e2⟩ := r2
  simp only at k1 k2 ⊢
  have hlt := h.lt
  have hB1 : Below W.heap.size W (W.alloc (.cells #[.int .i64 0, .int .i64 0] 59)) := (Below.refl _ _).alloc (Nat.le_refl _) _
  have HA := Lib.hid (h.later hB1)
  have hB2 : Below (W.alloc (.cells #[.int .i64 0, .int .i64 0] 59)).heap.size (W.alloc (.cells #[.int .i64 0, .int .i64 0] 59)) ((W.alloc (.cells #[.int .i64 0, .int .i64 0] 59)).alloc (.cells #[.int .i64 0, .int .i64 0] 59)) := (Below.refl _ _).alloc (Nat.le_refl _) _
  have HC := Lib.hid (HA.out.later hB2)
  have HR := Lib.hid ((Box.new W 59 #[.int .i64 0, .int .i64 0]).later hB2)
  have HS := Lib.hid (Box.new (W.alloc (.cells #[.int .i64 0, .int .i64 0] 59)) 59 #[.int .i64 0, .int .i64 0])
  have hsz : (W.alloc (.cells #[.int .i64 0, .int .i64 0] 59)).heap.size = W.heap.size + 1 := Array.size_push ..
  rw [hsz] at HS
  have HO := Lib.hid (Off.of_below (fun k => k = b) (hB1.trans (hB2.mono hB1.size)))
  have hb1 : b ≠ W.heap.size := Nat.ne_of_lt hlt
  have hb2 : b ≠ W.heap.size + 1 := by omega
  have hb3 : W.heap.size ≠ W.heap.size + 1 := by omega
  clear h hB1 hB2 HA hsz
  go_enter Try.func39, Try.ntmps39
  go_wp2_with fail
  with_reducible refine (k1 _ HC.out).mono ?_
  rintro en w1 ⟨rfl, hx1, ho1⟩
  have HO1 := Lib.hid (HO.out.trans ho1 (fun i hi h => h))
  have HR1 := Lib.hid (HR.out.off ho1 (fun e => hb1 e.symm))
  have HS1 := Lib.hid (HS.out.off ho1 (fun e => hb2 e.symm))
  have fr1 := HS1.out.frozen 0
  have fc1 := (HS1.out.cell 0).trans (show _ = some (Value.int .i64 0) from rfl)
  have hlt1 := HS1.out.lt
  have hs1 : Off (fun k => k = W.heap.size + 1) w1 (w1.setCell ⟨W.heap.size + 1, 0, none⟩ (.int .i64 n1)) := Off.set (p := ⟨W.heap.size + 1, 0, none⟩) (Off.refl (fun k => k = W.heap.size + 1) w1) (.inl rfl) (.int .i64 n1)
  have HC1' := Lib.hid (hx1.off hs1 hb2)
  have HR1' := Lib.hid (HR1.out.off hs1 hb3)
  have HS1' := Lib.hid (HS1.out.set 0 (.int .i64 n1))
  have HO1' := Lib.hid (HO1.out.set (p := ⟨W.heap.size + 1, 0, none⟩) (.inr (Nat.le_succ _)) (.int .i64 n1))
  clear hx1 ho1 HO HR HS HC hs1 HO1 HR1 HS1
  go_wp2_with fail
  with_reducible refine (k2 _ HC1'.out).mono ?_
  rintro en w3 ⟨rfl, hx3, ho3⟩
  have HO3 := Lib.hid (HO1'.out.trans ho3 (fun i hi h => h))
  have HR3 := Lib.hid (HR1'.out.off ho3 (fun e => hb1 e.symm))
  have HS3 := Lib.hid (HS1'.out.off ho3 (fun e => hb2 e.symm))
  have fr3 := HS3.out.frozen 1
  have fc3 := (HS3.out.cell 1).trans (show _ = some (Value.int .i64 0) from rfl)
  have hlt3 := HS3.out.lt
  have hs3 : Off (fun k => k = W.heap.size + 1) w3 (w3.setCell ⟨W.heap.size + 1, 1, none⟩ (.int .i64 n2)) := Off.set (p := ⟨W.heap.size + 1, 1, none⟩) (Off.refl (fun k => k = W.heap.size + 1) w3) (.inl rfl) (.int .i64 n2)
  have HC3' := Lib.hid (hx3.off hs3 hb2)
  have HR3' := Lib.hid (HR3.out.off hs3 hb3)
  have HS3' := Lib.hid (HS3.out.set 1 (.int .i64 n2))
  have HO3' := Lib.hid (HO3.out.set (p := ⟨W.heap.size + 1, 1, none⟩) (.inr (Nat.le_succ _)) (.int .i64 n2))
  clear hx3 ho3 HO1' HR1' HS1' HC1' hs3 HO3 HR3 HS3
  have s0 := (HS3'.out.cell 0).trans (show _ = some (Value.int .i64 n1) from rfl)
  have s1 := (HS3'.out.cell 1).trans (show _ = some (Value.int .i64 n2) from rfl)
  have r0 := (HR3'.out.cell 0).trans (show _ = some (Value.int .i64 0) from rfl)
  have r1 := (HR3'.out.cell 1).trans (show _ = some (Value.int .i64 0) from rfl)
  have f0 := HR3'.out.frozen 0
  have f1 := HR3'.out.frozen 1
  have HZ := Lib.hid ((HR3'.out.set 0 (.int .i64 n1)).set 1 (.int .i64 n2))
  have HOZ := Lib.hid ((Off.refl (fun k => k = W.heap.size) (w3.setCell ⟨W.heap.size + 1, 1, none⟩ (.int .i64 n2))).set (p := ⟨W.heap.size, 0, none⟩) (.inl rfl) (.int .i64 n1) |>.set (p := ⟨W.heap.size, 1, none⟩) (.inl rfl) (.int .i64 n2))
  have HCZ := Lib.hid (HC3'.out.off HOZ.out hb1)
  have HOF := Lib.hid ((HO3'.out.set (p := ⟨W.heap.size, 0, none⟩) (.inr (Nat.le_refl _)) (.int .i64 n1)).set (p := ⟨W.heap.size, 1, none⟩) (.inr (Nat.le_refl _)) (.int .i64 n2))
  go_wp2_with fail
  exact bodyPost_ret (v := .agg #[.int .i64 n1, .int .i64 n2]) (entry_result W.heap.size HZ.out _ rfl) rfl ⟨rfl, HCZ.out, HOF.out⟩
end Go.Proofs.Ytnpfakjgocnkbaa
