/- Names of both disks; Same. No condition. -/
import Derived.Test.YtpdimmkacjilgaaKdCopy
namespace Go.Proofs.Ytpdimmkacjilgaa
open Go.RowKit Go.Maps Go.ChangeMaps Go.WideMaps Go.Shelf
set_option linter.unusedVariables false
attribute [local go_sem ↓] Go.wp_at_zero Go.wp_at_succ
def strC (l : List (List UInt8)) : List Value := l.map fun n => Value.string ⟨n.toArray⟩
theorem strC_enc (l : List (List UInt8)) : l.map encStr = strC l := rfl
theorem strC_at {l : List (List UInt8)} {j : Nat} {n : List UInt8} (h : l[j]? = some n) : (strC l)[j]? = some (.string ⟨n.toArray⟩) := by unfold strC; rw [List.getElem?_map, h]; rfl
/-- A list of names in a row of the call's own. -/
def GotNames (W : World) (l : List (List UInt8)) (e : Ending) (w' : World) : Prop := ∃ v, e = .returned v ∧ w'.ownsRow W.heap.size 9 1 v l.length (strC l) ∧ Below W.heap.size W w'
def namesA (a : Ab) : List (List UInt8) := if upA a then a.L.map (·.1) else []
theorem set_same {xs : List Value} {j : Nat} {u : Value} (h : xs[j]? = some u) : xs.set j u = xs := by
  obtain ⟨hj, he⟩ := List.getElem?_eq_some_iff.1 h
  rw [← he]
  exact List.set_getElem_self hj
set_option maxHeartbeats 4000000 in
set_option maxRecDepth 100000 in
theorem names_up (p : Nat) (a : Ab) (S : Nat → Prop) (W : World) (h : Is W p a S) (hu : upA a = true) (hlen : a.L.length ≤ 1000000) : Calls Try.prog 21 #[dp p] W (GotNames W (a.L.map (·.1))) := by
  have hc := up_do p a S W h
  rw [hu] at hc
  obtain ⟨d, hR, h1, h2, h3, h4, h5, h6⟩ := h
  have hl : d.F.length = a.L.length := by rw [← h4]; unfold absL; simp
  have hn := names_c p d W hR (by omega)
  have hF : d.F.map (·.name) = a.L.map (·.1) := by rw [← h4]; unfold absL; rw [List.map_map]; rfl
  have hcl := fun (s : ByteArray) (w : World) hs => clone_c s w hs
  have hsz : ∀ n ∈ a.L.map (·.1), n.length ≤ 40 := by
    intro n hn
    rw [← hF] at hn
    obtain ⟨f, hf, rfl⟩ := List.mem_map.1 hn
    exact (hR.files f hf).name.2
  clear hR h1 h2 h3 h4 h5 h6 hu
  have hll : (a.L.map (·.1)).length = a.L.length := by simp
  generalize a.L.map (·.1) = l at *
  rw [← hll] at hlen hl
  clear hll
  unfold dp at *
  go_enter Try.func21, Try.ntmps21
  go_wp2_with fail
  (with_reducible refine hc.mono ?_)
  rintro en w1 ⟨rfl, hw⟩
  have hw' := hw.symm
  subst hw'
  go_wp2_with fail
  (with_reducible refine hn.mono ?_)
  rintro en W1 ⟨v, rfl, hrow, hnil, hb⟩
  rw [hF, hl, strC_enc] at hrow
  obtain ⟨nb, cap, rfl⟩ : ∃ nb cap, v = .slice nb l.length cap := by
    rcases hrow.2 with ⟨hv, h0⟩ | ⟨g, cap, cur, hv, _⟩
    · exact ⟨_, _, by rw [h0]; exact hv⟩
    · exact ⟨_, _, hv⟩
  have ST := Lib.hid (And.intro hrow hb)
  clear hn hc hrow hb hnil hF hl
  go_wp2_with fail
  go_loopw [4, 5, 13] (fun _ _ i wr => ∃ j : Nat, i = .int .i64 j ∧ j ≤ l.length ∧ wr.ownsRow W.heap.size 9 1 (.slice nb l.length cap) l.length (strC l) ∧ Below W.heap.size W wr) (fun _ _ i _ => l.length - (intOf i).toNat)
  case atStart => exact ⟨0, rfl, Nat.zero_le _, ST.out.1, ST.out.2⟩
  case round =>
    obtain ⟨j, rfl, hj, hrow, hb⟩ := hrel
    by_cases hjl : j < l.length
    · obtain ⟨n, hn⟩ : ∃ n, l[j]? = some n := ⟨_, List.getElem?_eq_getElem hjl⟩
      obtain ⟨g, rfl⟩ : ∃ g, nb = some ⟨g, 0, none⟩ := by
        rcases hrow.2 with ⟨hv, h0⟩ | ⟨g, cap, cur, hv, _⟩
        · omega
        · injection hv with h1 _ _
          exact ⟨g, h1⟩
      have hgW : W.heap.size ≤ g := (hrow.lt g rfl).1
      have x0 : wr.cell? ⟨g, j, none⟩ = some (.string ⟨n.toArray⟩) := (hrow.cellAt j (by omega)).trans (strC_at hn)
      have hns : (⟨n.toArray⟩ : ByteArray).size ≤ 281474976710656 := by
        have := hsz n (List.mem_of_getElem? hn)
        show n.toArray.size ≤ _
        simp
        omega
      have hc1 := hcl ⟨n.toArray⟩ wr hns
      have HR := Lib.hid (And.intro hrow hb)
      have HN := Lib.hid (strC_at hn)
      clear hrow hb hn hcl hsz
      generalize (⟨n.toArray⟩ : ByteArray) = sx at *
      go_wp2_with fail
      (with_reducible refine hc1.mono ?_)
      rintro en w2 ⟨rfl, hb2⟩
      have hrow2 := own_below HR.out.1 hb2
      have x1 : w2.cell? ⟨g, j, none⟩ = some (.string sx) := (hrow2.cellAt j (by omega)).trans HN.out
      have z1 : w2.frozen? ⟨g, j, none⟩ = false := hrow2.frozenAt j
      have hrow3 := (hrow2.stored j (.string sx)).1
      rw [set_same HN.out] at hrow3
      have hb3 : Below W.heap.size W (w2.setCell ⟨g, j, none⟩ (.string sx)) := (HR.out.2.trans (hb2.mono HR.out.2.size)).trans ((Off.one w2 ⟨g, j, none⟩ _).below (by have := HR.out.2.size; have := hb2.size; omega) (fun k e => by have e' : k = g := e; omega))
      have H3 := Lib.hid (And.intro hrow3 hb3)
      clear hrow2 hrow3 hb3 hb2
      go_wp2_with fail
      go_roundw
      case rel => exact ⟨j + 1, by go_num, hjl, H3.out.1, H3.out.2⟩
      case measure => simp [intOf]; omega
    · have HR := Lib.hid (And.intro hrow hb)
      clear hrow hb
      go_wp2
      go_ret
      exact ⟨_, rfl, HR.out.1, HR.out.2⟩
theorem names_do (p : Nat) (a : Ab) (S : Nat → Prop) (W : World) (h : Is W p a S) (hlen : a.L.length ≤ 1000000) : Calls Try.prog 21 #[dp p] W (GotNames W (namesA a)) := by
  unfold namesA
  cases hu : upA a with
  | true => exact names_up p a S W h hu hlen
  | false =>
    refine (names_down p a S W h hu).mono ?_
    rintro e w' ⟨rfl, rfl⟩
    exact ⟨_, rfl, World.ownsRow_nil _ _ _ _, Below.refl _ _⟩
theorem infoStr : (Try.prog.info? 9).map (fun i => (i.zero, i.size, i.bytes)) = some (some (.string ⟨#[]⟩), 1, 16) := by kernel_rfl
set_option maxHeartbeats 4000000 in
set_option maxRecDepth 100000 in
theorem knames_c (q : Nat) (a : Ab) (S : Nat → Prop) (W : World) (h : KIs W q a S) (ha : AbOk a) (hlen : a.L.length ≤ 1000000) : Calls Try.prog 35 #[dp q] W (GotNames W (namesA a)) := by
  obtain ⟨v, h, _, _⟩ := h
  obtain ⟨nb, cap, rfl⟩ := h.slice
  obtain ⟨i0, hinf, hz⟩ := Option.map_eq_some_iff.1 infoStr
  simp only [Prod.mk.injEq] at hz
  obtain ⟨hz0, hz1, hz2⟩ := hz
  have hc := fun (w : World) (hk : KAt w q a (.slice nb a.L.length cap)) => kup_c q a _ w hk ha
  have H0 := Lib.hid h
  have hql := h.box.lt
  clear h
  obtain ⟨r, hr⟩ : ∃ r, namesA a = r := ⟨_, rfl⟩
  rw [hr]
  have HR0 := Lib.hid hr
  clear hr
  have hat : ∀ (j : Nat) (x : AF), a.L[j]? = some x → (a.L.map (·.1))[j]? = some x.1 := fun j x hx => by rw [List.getElem?_map, hx]; rfl
  have hll : (a.L.map (·.1)).length = a.L.length := by simp
  have HA := Lib.hid (show namesA a = if upA a then a.L.map (·.1) else [] from rfl)
  generalize a.L.map (·.1) = l at *
  unfold dp at *
  go_enter Try.func35, Try.ntmps35
  go_wp2_with fail
  go_loopw [3, 4] (fun out i wr => ∃ j : Nat, ∃ nb' cap', out = .slice nb' j cap' ∧ i = .int .i64 j ∧ j ≤ a.L.length ∧ (j = 0 ∨ upA a = true) ∧ wr.ownsRow W.heap.size 9 1 (.slice nb' j cap') j (strC (l.take j)) ∧ KAt wr q a (.slice nb a.L.length cap) ∧ Below W.heap.size W wr) (fun _ i _ => a.L.length - (intOf i).toNat)
  case atStart => exact ⟨0, none, 0, rfl, rfl, Nat.zero_le _, .inl rfl, World.ownsRow_nil _ _ _ _, H0.out, Below.refl _ _⟩
  case round =>
    obtain ⟨j, nb', cap', rfl, rfl, hj, hup, hrow, hK, hb⟩ := hrel
    have y1 : wr.cell? ⟨q, 1, none⟩ = some (.slice nb a.L.length cap) := (hK.box.cell 1).trans rfl
    have hcw := hc wr hK
    by_cases hgo : j < a.L.length ∧ upA a = true
    · obtain ⟨hjl, hu⟩ := hgo
      rw [hu] at hcw
      obtain ⟨x, hx⟩ : ∃ x, a.L[j]? = some x := ⟨_, List.getElem?_eq_getElem hjl⟩
      obtain ⟨g, rfl, c0, c1, c2, c3⟩ := hK.file hx
      have hji : (j : Int) < (a.L.length : Int) := by omega
      have HR := Lib.hid hrow
      have HKB := Lib.hid (And.intro hK hb)
      have hwsz := hb.size
      have htk : strC (l.take (j + 1)) = strC (l.take j) ++ [.string ⟨x.1.toArray⟩] := by
        rw [List.take_add_one, hat j x hx]
        simp [strC]
      have HT := Lib.hid htk
      clear hrow hK hb hc htk hat
      generalize (⟨x.1.toArray⟩ : ByteArray) = sx at *
      go_wp2_with fail
      (with_reducible refine hcw.mono ?_)
      rintro en w2 ⟨rfl, hw⟩
      have hw' := hw.symm
      subst hw'
      clear hw hcw
      go_wp2_with (at_builtin; refine wpList_append_own_at _ rfl _ _ 46 rfl W.heap.size 9 i0 _ 1 16 Try.underlying46 hinf hz0 hz1 hz2 rfl (by decide) (.slice nb' j cap') j _ rfl (HR.out.alloc _) ⟨wr.heap.size, 0, none⟩ 1 1 [.string sx] rfl rfl (cell_one_new _ _ _) (by intro u hu; simp at hu; subst hu; rfl) (by unfold maxLen; omega) (by omega) (by simp; omega) ?_)
      intro v2 w4 hown4 hgrow4 hnil4 hlies4
      have o4 : Off (fun k => W.heap.size ≤ k) wr w4 := ((Off.refl (fun k => W.heap.size ≤ k) wr).alloc _).grown hgrow4 (fun k hk _ => (HR.out.lt k hk).1)
      have hgl : g < W.heap.size := by
        have := (H0.out.row.lt g rfl).2
        exact this
      have hK4 := HKB.out.1.off o4 (by omega) (fun k hk e => by
        have : g = k := by simpa [Value.ownBlock] using hk
        omega)
      have hb4 : Below W.heap.size W w4 := HKB.out.2.trans (o4.below HKB.out.2.size fun k hk => hk)
      obtain ⟨nb4, cap4, rfl⟩ : ∃ nb4 cap4, v2 = .slice nb4 (j + 1) cap4 := by
        rcases hown4.2 with ⟨hv, h0⟩ | ⟨g, cap, cur, hv, _⟩
        · omega
        · exact ⟨_, _, hv⟩
      rw [← HT.out] at hown4
      have HX := Lib.hid (And.intro hown4 (And.intro hK4 hb4))
      clear hown4 hK4 hb4 o4 hgrow4 hnil4 hlies4
      go_wp2_with fail
      go_roundw
      case rel => exact ⟨j + 1, nb4, cap4, rfl, by go_num, hjl, .inr hu, HX.out.1, HX.out.2.1, HX.out.2.2⟩
      case measure => simp [intOf]; omega
    · have hres : r = l.take j := by
        rw [← HR0.out, HA.out]
        cases hu : upA a with
        | true =>
          have : j = a.L.length := by
            have : ¬ j < a.L.length := fun e => hgo ⟨e, hu⟩
            omega
          rw [this, ← hll, List.take_length]
          rfl
        | false =>
          have : j = 0 := by
            rcases hup with h0 | h0
            · exact h0
            · rw [hu] at h0; cases h0
          rw [this]
          rfl
      have hrl : r.length = j := by rw [hres]; simp; omega
      have hrow : wr.ownsRow W.heap.size 9 1 (.slice nb' j cap') r.length (strC r) := by rw [hrl, hres]; exact hrow
      have HR := Lib.hid (And.intro hrow hb)
      rcases Nat.lt_or_ge j a.L.length with hjl | hjl
      · have hu : upA a = false := by
          cases hu : upA a with
          | false => rfl
          | true => exact absurd ⟨hjl, hu⟩ hgo
        rw [hu] at hcw
        have hji : (j : Int) < (a.L.length : Int) := by omega
        clear hrow hb hgo hup hK hres hrl
        go_wp2_with fail
        (with_reducible refine hcw.mono ?_)
        rintro en w2 ⟨rfl, hw⟩
        have hw' := hw.symm
        subst hw'
        clear hw hcw
        go_wp2
        go_ret
        exact ⟨_, rfl, HR.out.1, HR.out.2⟩
      · have hje : j = a.L.length := by omega
        clear hrow hb hgo hup hK hcw hres hrl
        subst hje
        go_wp2
        go_ret
        exact ⟨_, rfl, HR.out.1, HR.out.2⟩
set_option maxHeartbeats 4000000 in
set_option maxRecDepth 100000 in
theorem ksame_c (l : List (List UInt8)) (base : Nat) (v1 v2 : Value) (W : World) (h1 : W.ownsRow base 9 1 v1 l.length (strC l)) (h2 : W.ownsRow base 9 1 v2 l.length (strC l)) (hlen : l.length ≤ 1000000) : Calls Try.prog 34 #[v1, v2] W (Good W (.bool true)) := by
  have sh : ∀ v, W.ownsRow base 9 1 v l.length (strC l) → ∃ nb cap, v = .slice nb l.length cap := by
    intro v hrow
    rcases hrow.2 with ⟨hv, h0⟩ | ⟨g, cap, cur, hv, _⟩
    · exact ⟨_, _, by rw [h0]; exact hv⟩
    · exact ⟨_, _, hv⟩
  obtain ⟨nb1, cap1, rfl⟩ := sh v1 h1
  obtain ⟨nb2, cap2, rfl⟩ := sh v2 h2
  have H := Lib.hid (And.intro h1 h2)
  clear sh h1 h2
  go_enter Try.func34, Try.ntmps34
  go_wp2_with fail
  go_loopw [5] (fun i wr => ∃ j : Nat, i = .int .i64 j ∧ j ≤ l.length ∧ Below W.heap.size W wr) (fun i _ => l.length - (intOf i).toNat)
  case atStart => exact ⟨0, rfl, Nat.zero_le _, Below.refl _ _⟩
  case round =>
    obtain ⟨j, rfl, hj, hb⟩ := hrel
    by_cases hjl : j < l.length
    · obtain ⟨n, hn⟩ : ∃ n, l[j]? = some n := ⟨_, List.getElem?_eq_getElem hjl⟩
      have k1 := own_below H.out.1 hb
      have k2 := own_below H.out.2 hb
      have sg : ∀ nb cap, wr.ownsRow base 9 1 (.slice nb l.length cap) l.length (strC l) → ∃ g, nb = some ⟨g, 0, none⟩ := by
        intro nb cap hrow
        rcases hrow.2 with ⟨hv, h0⟩ | ⟨g, cap, cur, hv, _⟩
        · omega
        · injection hv with h1 _ _
          exact ⟨g, h1⟩
      obtain ⟨g1, rfl⟩ := sg _ _ k1
      obtain ⟨g2, rfl⟩ := sg _ _ k2
      have x1 : wr.cell? ⟨g1, j, none⟩ = some (.string ⟨n.toArray⟩) := (k1.cellAt j (by omega)).trans (strC_at hn)
      have x2 : wr.cell? ⟨g2, j, none⟩ = some (.string ⟨n.toArray⟩) := (k2.cellAt j (by omega)).trans (strC_at hn)
      have HB := Lib.hid hb
      have hji : (j : Int) < (l.length : Int) := by omega
      have hj0 : (0 : Int) ≤ (j : Int) := by omega
      clear k1 k2 sg hb hn
      generalize (⟨n.toArray⟩ : ByteArray) = sx at *
      go_wp2_with fail
      go_region_held3 (fun w => w.cell? ⟨g1, j, none⟩ = some (.string sx) ∧ w.cell? ⟨g2, j, none⟩ = some (.string sx)) (exact ⟨x1, x2⟩) (fail)
      go_wp2_with fail
      go_roundw
      case rel => exact ⟨j + 1, by go_num, hjl, HB.out.drew⟩
      case measure => simp [intOf]; omega
    · have hje : j = l.length := by omega
      subst hje
      go_wp2
      go_ret
      exact ⟨rfl, hb⟩
end Go.Proofs.Ytpdimmkacjilgaa
