/- Both disks hold the same. No condition. -/
import Derived.Test.YtpdimmkacjilgaaKsStep3
namespace Go.Proofs.Ytpdimmkacjilgaa
open Go.RowKit Go.Maps Go.ChangeMaps Go.WideMaps Go.Shelf
set_option linter.unusedVariables false
attribute [local go_sem ↓] Go.wp_at_zero Go.wp_at_succ
theorem Pr0.later {W w w' : World} {p q : Nat} {a : Ab} (h : Pr0 W p a q w) (hb : Below w.heap.size w w') : Pr0 W p a q w' := by
  obtain ⟨S, T, h1, h2, h3, h4, h5, h6⟩ := h
  exact ⟨S, T, h1.later hb, h2.off (Off.of_below (fun _ => False) hb) (fun _ _ x => x), h3, h4, h5, h6.trans (hb.mono h6.size)⟩
theorem findL_at {L : List AF} (hs : L.Pairwise fun x y => bytesBefore x.1 y.1 = true) {j : Nat} {x : AF} (h : L[j]? = some x) : findL L x.1 = some x := by
  induction L generalizing j with
  | nil => simp at h
  | cons z L ih =>
    obtain ⟨p1, p2⟩ := List.pairwise_cons.1 hs
    unfold findL at ih ⊢
    rw [List.find?_cons]
    cases j with
    | zero =>
      have : z = x := by simpa using h
      subst this
      simp
    | succ j =>
      have h' : L[j]? = some x := by simpa using h
      have hne : (z.1 == x.1) = false := by
        rw [beq_eq_false_iff_ne]
        intro e
        have := p1 x (List.mem_of_getElem? h')
        rw [e, bytes_irrefl] at this
        cases this
      rw [hne]
      exact ih p2 h'
def Holds (W : World) (p : Nat) (a : Ab) (q : Nat) (e : Ending) (w' : World) : Prop := e = .returned (.bool true) ∧ Pr0 W p a q w'
set_option maxHeartbeats 16000000 in
set_option maxRecDepth 100000 in
theorem holds_c (W w : World) (p q : Nat) (a : Ab) (h : Pr0 W p a q w) (hlen : a.L.length ≤ 1001) : Calls Try.prog 12 #[dp p, dp q] w (Holds W p a q) := by
  have h' := h.later (Below.refl _ w).drew
  obtain ⟨S, T, h1, ⟨v, hk, _, _⟩, _⟩ := id h'
  have ha := h1.ok
  obtain ⟨nb, cap, rfl⟩ := hk.slice
  have y0 : w.drew.cell? ⟨q, 0, none⟩ = some (.int .i64 a.room) := (hk.box.cell 0).trans rfl
  have cu := up_do p a S w.drew h1
  have ck := kup_c q a _ w.drew hk ha
  have cs := used_do p a S w.drew h1
  have ct := kused_c q a _ w.drew hk ha (by omega)
  have cr := room_do p a S w.drew h1
  have cc := copy_do p a S w.drew h1 (by omega)
  have HK := Lib.hid hk
  have HP := Lib.hid (And.intro h' ha)
  have HI := Lib.hid h1
  clear h h' h1 hk ha
  unfold dp at *
  generalize hu : upA a = u at *
  generalize hto : totL a.L = tt at *
  have HU := Lib.hid hu
  clear hu hto
  go_enter Try.func12, Try.ntmps12
  go_wp2_with fail
  go_region_held3 (fun w' => w'.cell? ⟨q, 0, none⟩ = some (.int .i64 a.room)) (exact y0)
    (first
      | ((with_reducible refine cu.mono ?_); rintro e w1 ⟨rfl, hw⟩; (have hw' := hw.symm; subst hw'))
      | ((with_reducible refine ck.mono ?_); rintro e w1 ⟨rfl, hw⟩; (have hw' := hw.symm; subst hw'))
      | ((with_reducible refine cs.mono ?_); rintro e w1 ⟨rfl, hw⟩; (have hw' := hw.symm; subst hw'))
      | ((with_reducible refine ct.mono ?_); rintro e w1 ⟨rfl, hw⟩; (have hw' := hw.symm; subst hw'))
      | ((with_reducible refine cr.mono ?_); rintro e w1 ⟨rfl, hw⟩; (have hw' := hw.symm; subst hw')))
  clear cu ck cs ct cr y0
  generalize w.drew = w0 at *
  have hl0 : (fuseA a (-1)).L = a.L := rfl
  have hup : upA (fuseA a (-1)) = true := by
    unfold upA fuseA
    simp
  have hnm : namesA (fuseA a (-1)) = a.L.map (·.1) := by unfold namesA; rw [hup]; rfl
  go_wp2_with fail
  (with_reducible refine cc.mono ?_)
  rintro en w1 ⟨rfl, hI1, hb1⟩
  have c1 := at_fuse (W := w0) (-1) ⟨hI1, hb1⟩ (by omega) (by omega)
  clear cc hI1 hb1
  unfold dp at c1
  go_wp2_with fail
  (with_reducible refine c1.mono ?_)
  rintro en w2 ⟨rfl, hA⟩
  have c2 := names_do _ _ _ w2 hA.1 (by rw [hl0]; omega)
  rw [hnm] at c2
  have HA := Lib.hid hA
  clear c1 hA
  unfold dp at c2
  go_wp2_with fail
  (with_reducible refine c2.mono ?_)
  rintro en w3 ⟨v3, rfl, hrow, hb3⟩
  have hll : (a.L.map (·.1)).length = a.L.length := by simp
  rw [hll] at hrow
  obtain ⟨nb3, cap3, rfl⟩ : ∃ nb3 cap3, v3 = .slice nb3 a.L.length cap3 := by
    rcases hrow.2 with ⟨hv, h0⟩ | ⟨g, cap, cur, hv, _⟩
    · exact ⟨_, _, by rw [h0]; exact hv⟩
    · exact ⟨_, _, hv⟩
  have hb03 : Below w0.heap.size w0 w3 := HA.out.2.trans (hb3.mono HA.out.2.size)
  have hK3 := HK.out.later hb03
  have y1 : w3.cell? ⟨q, 1, none⟩ = some (.slice nb a.L.length cap) := (hK3.box.cell 1).trans rfl
  have HR := Lib.hid (And.intro hrow (And.intro hb3 (And.intro hb03 hK3)))
  clear c2 hrow hb3 hb03 hK3 hnm hup hll
  go_wp2_with fail
  go_loopw [7, 8, 9] (fun i _ _ wr => ∃ j : Nat, i = .int .i64 j ∧ j ≤ a.L.length ∧ Below w3.heap.size w3 wr) (fun i _ _ _ => a.L.length - (intOf i).toNat)
  case atStart => exact ⟨0, rfl, Nat.zero_le _, Below.refl _ _⟩
  case round =>
    obtain ⟨j, rfl, hj, hb⟩ := hrel
    by_cases hjl : j < a.L.length
    · obtain ⟨x, hx⟩ : ∃ x, a.L[j]? = some x := ⟨_, List.getElem?_eq_getElem hjl⟩
      have hrow := own_below HR.out.1 hb
      have hK := HR.out.2.2.2.later hb
      have hIr := (HA.out.later HR.out.2.1).later hb
      obtain ⟨g3, rfl⟩ : ∃ g, nb3 = some ⟨g, 0, none⟩ := by
        rcases hrow.2 with ⟨hv, h0⟩ | ⟨g, cap, cur, hv, _⟩
        · omega
        · injection hv with h1 _ _
          exact ⟨g, h1⟩
      obtain ⟨g, rfl, c0, c1, c2, c3⟩ := hK.file hx
      have yq : wr.cell? ⟨q, 1, none⟩ = some (.slice (some ⟨g, 0, none⟩) a.L.length cap) := (hK.box.cell 1).trans rfl
      have xn : wr.cell? ⟨g3, j, none⟩ = some (.string ⟨x.1.toArray⟩) := (hrow.cellAt j (by omega)).trans (strC_at (by rw [List.getElem?_map, hx]; rfl))
      have hfx := findL_at HP.out.2.sorted hx
      have hn40 : (⟨x.1.toArray⟩ : ByteArray).size ≤ maxLen := by
        have := (HP.out.2.each x (List.mem_of_getElem? hx)).2.1
        show x.1.toArray.size ≤ maxLen
        unfold maxLen
        simp
        omega
      have cr := read_do _ _ _ wr ⟨x.1.toArray⟩ hn40 hIr.1
      have e1 : readV (fuseA a (-1)) (⟨x.1.toArray⟩ : ByteArray).data.toList = x.2.1 := by
        unfold readV
        have hu2 : upA (fuseA a (-1)) = true := by unfold upA fuseA; simp
        rw [hu2]
        show (match true, findL a.L x.1 with | true, some x => x.2.1 | _, _ => []) = _
        rw [hfx]
      have e2 : seeE (fuseA a (-1)) (⟨x.1.toArray⟩ : ByteArray).data.toList = 0 := by
        unfold seeE
        have hu2 : upA (fuseA a (-1)) = true := by unfold upA fuseA; simp
        rw [hu2]
        show (if true = true then if (findL a.L x.1).isSome = true then (0 : Int) else 6 else 7) = 0
        rw [hfx]
        rfl
      rw [e1, e2] at cr
      have HB := Lib.hid hb
      have hji : (j : Int) < (a.L.length : Int) := by omega
      have hj0 : (0 : Int) ≤ (j : Int) := by omega
      clear hrow hK hIr hfx hn40 e1 e2 hb y1 c2 c3 hx
      unfold dp at cr
      generalize (⟨x.1.toArray⟩ : ByteArray) = nx at *
      generalize (⟨x.2.1.toArray⟩ : ByteArray) = sx at *
      go_wp2_with fail
      (with_reducible refine cr.mono ?_)
      rintro en w5 ⟨rfl, hw⟩
      have hw' := hw.symm
      subst hw'
      clear hw cr
      go_wp2_with fail
      go_region_held3 (fun w' => w'.cell? ⟨g3, j, none⟩ = some (.string nx) ∧ w'.cell? ⟨q, 1, none⟩ = some (.slice (some ⟨g, 0, none⟩) a.L.length cap) ∧ w'.cell? ⟨g, j * 3, none⟩ = some (.string nx) ∧ w'.cell? ⟨g, j * 3 + 1, none⟩ = some (.string sx)) (exact ⟨xn, yq, c0, c1⟩) (fail)
      go_wp2_with fail
      go_roundw
      case rel => exact ⟨j + 1, by go_num, hjl, HB.out.drew⟩
      case measure => simp [intOf]; omega
    · have hje : j = a.L.length := by omega
      have HF := Lib.hid (HP.out.1.later (HR.out.2.2.1.trans (hb.mono HR.out.2.2.1.size)))
      clear hb
      subst hje
      go_wp2
      go_ret
      exact ⟨rfl, HF.out⟩
end Go.Proofs.Ytpdimmkacjilgaa
