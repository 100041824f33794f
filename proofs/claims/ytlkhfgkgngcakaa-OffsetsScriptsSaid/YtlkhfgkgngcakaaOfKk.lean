/- offsets: Keys, by a contract. No condition but that they are not too many, and may be. -/
import Derived.Test.YtlkhfgkgngcakaaOfKy
import Derived.Test.YtlkhfgkgngcakaaRowG
import Derived.Test.YtlkhfgkgngcakaaOfEm
namespace Go.Proofs.Ytlkhfgkgngcakaa
open Go.RowKit Go.Maps
set_option linter.unusedVariables false
theorem set_cell_same {w : World} {b o : Nat} {u : Value} (h : w.cell? ⟨b, o, none⟩ = some u) : w.setCell ⟨b, o, none⟩ u = w := by
  unfold World.cell? at h
  simp only at h
  cases hb : w.heap[b]? with
  | none => rw [hb] at h; cases h
  | some ob =>
    rw [hb] at h
    cases ob
    case cells c t fr =>
      simp at h
      have hc : c.setIfInBounds o u = c := by
        apply Array.ext (by simp)
        intro j h1 h2
        rw [Array.getElem_setIfInBounds]
        split
        · subst_vars
          rw [Array.getElem?_eq_getElem h2] at h
          exact (Option.some.inj h).symm
        · rfl
      have key : (w.setCell ⟨b, o, none⟩ u).heap = w.heap := by
        obtain ⟨hlt, hk⟩ := Array.getElem?_eq_some_iff.1 hb
        apply Array.ext (by simp [World.setCell])
        intro j h1 h2
        simp only [World.setCell, Array.getElem_modify]
        split
        · rename_i e
          subst e
          rw [hk]
          simp [hc]
        · rfl
      show ({ w with heap := (w.setCell ⟨b, o, none⟩ u).heap } : World) = w
      rw [key]
    all_goals simp at h
theorem ky_cell {w : World} {base c n : Nat} {L : List KY} {A : Option Addr} (hn : L.length = n) (hrow : w.ownsRow base 45 3 (.slice A n c) n (rowKy L)) {j : Nat} {x : KY} (hj : L[j]? = some x) :
    ∃ g, A = some ⟨g, 0, none⟩ ∧ base ≤ g ∧ w.cell? ⟨g, j * 3, none⟩ = some (.string x.g) ∧ w.cell? ⟨g, j * 3 + 1, none⟩ = some (.string x.t) ∧ w.cell? ⟨g, j * 3 + 2, none⟩ = some (.int .i64 x.i) ∧ w.frozen? ⟨g, j * 3, none⟩ = false ∧ w.frozen? ⟨g, j * 3 + 1, none⟩ = false ∧ w.frozen? ⟨g, j * 3 + 2, none⟩ = false ∧ g < w.heap.size ∧ n ≤ c := by
  have hl : j < n := by rw [← hn]; exact (List.getElem?_eq_some_iff.1 hj).1
  rcases hrow.2 with ⟨hv, h0⟩ | ⟨g, cap, cur, hv, hg, hh, h4, h5, h6, h7⟩
  · omega
  · injection hv with e1 e2 e3
    subst e1 e3
    obtain ⟨k1, k2, k3⟩ := rowKy_at hj
    exact ⟨g, rfl, hg, (hrow.cellAt (j * 3) (by omega)).trans k1, (hrow.cellAt (j * 3 + 1) (by omega)).trans k2, (hrow.cellAt (j * 3 + 2) (by omega)).trans k3, by simp [World.frozen?, hh], by simp [World.frozen?, hh], by simp [World.frozen?, hh], lt_of_there hh, h4⟩
structure KkI (W : World) (A : Option Addr) (c : Nat) (L : List KY) (w : World) : Prop where
  row : w.ownsRow W.heap.size 45 3 (.slice A L.length c) L.length (rowKy L)
  below : Below W.heap.size W w
theorem KkI.later {W w w' : World} {A : Option Addr} {c : Nat} {L : List KY} (h : KkI W A c L w) (hb : Below w.heap.size w w') : KkI W A c L w' := ⟨own_below h.row hb, h.below.trans (hb.mono h.below.size)⟩
theorem keysOf_len (F : List KE) : (keysOf F).length = F.length := by unfold keysOf; rw [(sortK_perm _).length_eq, List.length_map]
theorem keysOf_mem {F : List KE} {k : KY} (h : k ∈ keysOf F) : ∃ e ∈ F, e.1 = k := by
  unfold keysOf at h
  rw [(sortK_perm _).mem_iff] at h
  exact List.mem_map.1 h
set_option maxHeartbeats 4000000 in
set_option maxRecDepth 100000 in
theorem keys_c (p g : Nat) (room : Int) (F : List KE) (W : World) (h : OfIs W p g room F) (hl : F.length ≤ 1000000) (hM : ∀ e ∈ F, mayK e.1 = true) :
    Calls Try.prog 16 #[.pointer (some ⟨p, 0, none⟩)] W (GotK W F) := by
  obtain ⟨c0, c1, cl⟩ := h.cells
  have cm := fun mb w => mkeys_c mb w
  have hB := (Below.refl W.heap.size W).alloc (Nat.le_refl _) (.cells #[.map (some g)] 57)
  have h1 := h.later hB
  have cs := sorted_c W.heap.size g F.length F (fun e he => mayK_ok (hM e he)) h.rise hl (W.alloc (.cells #[.map (some g)] 57)) (by simp) (((Box.new W 57 #[.map (some g)]).cell 0).trans rfl) h1.map
  have HB := Lib.hid hB
  have HM : Hid (∀ k : KY, k ∈ keysOf F → k.g.size ≤ 281474976710656 ∧ k.t.size ≤ 281474976710656) := Lib.hid (fun k hk => by
    obtain ⟨e, he, rfl⟩ := keysOf_mem hk
    have := (mayK_parts (hM e he))
    exact ⟨by omega, by omega⟩)
  have HLN := Lib.hid (keysOf_len F)
  clear hB h1 h hM
  go_enter Try.func16, Try.ntmps16
  go_wp2_with fail
  with_reducible refine (cm _ _).mono ?_
  rintro en w1 ⟨rfl, rfl⟩
  go_wp2_with fail
  with_reducible refine cs.mono ?_
  rintro en w2 ⟨A, c, rfl, hrow, hb⟩
  have hK : KkI W A c (keysOf F) w2 := ⟨by
    rw [HLN.out]
    have e : (W.alloc (.cells #[.map (some g)] 57)).heap.size = W.heap.size + 1 := by simp
    refine ⟨hrow.1, ?_⟩
    rcases hrow.2 with h0 | ⟨g', cap', cur, hv, hbase, rest⟩
    · exact .inl h0
    · exact .inr ⟨g', cap', cur, hv, by omega, rest⟩, HB.out.trans (hb.mono (by simp))⟩
  have HK := Lib.hid hK
  clear hK hrow hb cs cm c0 c1 cl HB
  obtain ⟨n, hn⟩ : ∃ n, F.length = n := ⟨_, rfl⟩
  have HN := Lib.hid hn
  rw [hn] at hl ⊢
  clear hn
  go_wp2_with fail
  go_loopw [16] (fun i wr => ∃ k : Nat, i = .int .i64 k ∧ k ≤ n ∧ KkI W A c (keysOf F) wr) (fun i _ => n - (intOf i).toNat)
  case atStart => exact ⟨0, rfl, Nat.zero_le _, HK.out⟩
  case round =>
    obtain ⟨k, rfl, hk, hI⟩ := hrel
    have HI := Lib.hid hI
    clear hI HK
    by_cases hkn : k < n
    · have hkl : k < (keysOf F).length := by rw [HLN.out, HN.out]; exact hkn
      obtain ⟨x, hx⟩ : ∃ x, (keysOf F)[k]? = some x := ⟨_, List.getElem?_eq_getElem hkl⟩
      have hsz := HM.out x (List.mem_of_getElem? hx)
      have hb0 := Box.new wr 45 #[.string x.g, .string x.t, .int .i64 x.i]
      have hBA := (Below.refl wr.heap.size wr).alloc (Nat.le_refl _) (.cells #[.string x.g, .string x.t, .int .i64 x.i] 45)
      obtain ⟨g', rfl, _, z0, z1, z2, f0, f1, f2, hg, hc⟩ := ky_cell rfl HI.out.row hx
      have HX := Lib.hid hx
      obtain ⟨b0, b1, b2, bl, _, _, _⟩ := ky3 hb0
      have cc := fun w => copied_c x w hsz.1 hsz.2
      have HI1 := Lib.hid (HI.out.later hBA)
      have hnc : n ≤ c := by rw [HLN.out, HN.out] at hc; exact hc
      have hK0 : (0 : Int) ≤ (k : Int) := by omega
      have hK1 : (k : Int) < (n : Int) := by omega
      clear hb0 hBA hx hkl hc HI
      go_wp2_with fail
      with_reducible refine (cc _).mono ?_
      rintro en w3 ⟨rfl, hb3⟩
      have HI3 := Lib.hid (HI1.out.later hb3)
      clear hb3 z0 z1 z2 f0 f1 f2 hg b0 b1 b2 bl HI1
      obtain ⟨g2, hA2, _, z0, z1, z2, f0, f1, f2, hg, hc⟩ := ky_cell rfl HI3.out.row HX.out
      have hg2 : g' = g2 := by injection hA2 with e; injection e
      subst hg2
      clear hA2 hc
      have s0 := set_cell_same z0
      have s1 := set_cell_same z1
      have s2 := set_cell_same z2
      go_wp2_with fail
      exact ⟨⟨k + 1, by go_num, hkn, HI3.out⟩, by simp [intOf]; omega⟩
    · have hkn' : ¬ (k : Int) < (n : Int) := by omega
      go_wp2_with fail
      go_ret
      have e1 : F.length = n := HN.out
      have e2 := HLN.out
      refine ⟨A, c, by rw [e1]; rfl, ?_, HI.out.below⟩
      rw [← e2]
      exact HI.out.row
end Go.Proofs.Ytlkhfgkgngcakaa
