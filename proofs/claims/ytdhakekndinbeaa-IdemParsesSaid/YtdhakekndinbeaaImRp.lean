/- idem: the document's Print, by a contract. No condition but that they are not too many. -/
import Derived.Test.YtdhakekndinbeaaImRo
import Derived.Test.YtdhakekndinbeaaRPut
import Derived.Deep.RegionHeld3
namespace Go.Proofs.Ytdhakekndinbeaa
open Go.RowKit
set_option linter.unusedVariables false
theorem bytes_app (l m : List UInt8) : (⟨l.toArray⟩ : ByteArray) ++ ⟨m.toArray⟩ = ⟨(l ++ m).toArray⟩ := by apply ByteArray.ext; simp
theorem bytes_size (l : List UInt8) : (⟨l.toArray⟩ : ByteArray).size = l.length := by show l.toArray.size = _; simp
theorem bytes_le {l : List UInt8} {n : Nat} (h : l.length ≤ n) : (⟨l.toArray⟩ : ByteArray).size ≤ n := by rw [bytes_size]; exact h
/-- What is there while one is told. -/
structure RpS (W : World) (base p o : Nat) (K : List RK) (A : Option Addr) (c : Nat) (x : RK) (w : World) : Prop where
  rp : RpIs w base p K A c
  one : Box w o 73 #[.int .i64 x.1.1, .int .i64 x.1.2.1, x.2]
  sn : SnAt w x.2 x.1.2.2
  bel : Below W.heap.size W w
theorem RpS.later {W w w' : World} {base p o c : Nat} {K : List RK} {A : Option Addr} {x : RK} (h : RpS W base p o K A c x w) (hb : Below w.heap.size w w') : RpS W base p o K A c x w' := ⟨h.rp.later hb, h.one.later hb, h.sn.later hb, h.bel.trans (hb.mono h.bel.size)⟩
theorem rps6 {W w w' : World} {base p o c : Nat} {K : List RK} {A : Option Addr} {x : RK} {v0 v1 v2 : Value} (h : w.cell? ⟨o, 0, none⟩ = some v0 ∧ w.cell? ⟨o, 1, none⟩ = some v1 ∧ w.cell? ⟨o, 2, none⟩ = some v2 ∧ RpS W base p o K A c x w) (hb : Below w.heap.size w w') :
    w'.cell? ⟨o, 0, none⟩ = some v0 ∧ w'.cell? ⟨o, 1, none⟩ = some v1 ∧ w'.cell? ⟨o, 2, none⟩ = some v2 ∧ RpS W base p o K A c x w' :=
  ⟨(hb.cell (cell_lt h.1)).trans h.1, (hb.cell (cell_lt h.2.1)).trans h.2.1, (hb.cell (cell_lt h.2.2.1)).trans h.2.2.1, h.2.2.2.later hb⟩
theorem rps10 {W w w' : World} {base p o c : Nat} {K : List RK} {A : Option Addr} {x : RK} {p1 p2 p3 : Addr} {v0 v1 v2 v3 : Value} (h : w.cell? ⟨o, 2, none⟩ = some v0 ∧ w.cell? p1 = some v1 ∧ w.cell? p2 = some v2 ∧ w.cell? p3 = some v3 ∧ RpS W base p o K A c x w) (hb : Below w.heap.size w w') :
    w'.cell? ⟨o, 2, none⟩ = some v0 ∧ w'.cell? p1 = some v1 ∧ w'.cell? p2 = some v2 ∧ w'.cell? p3 = some v3 ∧ RpS W base p o K A c x w' :=
  ⟨(hb.cell (cell_lt h.1)).trans h.1, (hb.cell (cell_lt h.2.1)).trans h.2.1, (hb.cell (cell_lt h.2.2.1)).trans h.2.2.1, (hb.cell (cell_lt h.2.2.2.1)).trans h.2.2.2.1, h.2.2.2.2.later hb⟩
theorem three_run {P : Program} (s a b c : List UInt8) (hs : s.length ≤ 1000000000) (ha : a.length ≤ 10) (hb : b.length ≤ 10) (hc : c.length ≤ 10) :
    (∀ w : World, (Op.stringOp .add ⟨s.toArray⟩ ⟨a.toArray⟩).run P w = .ok (.string (⟨s.toArray⟩ ++ ⟨a.toArray⟩)) w) ∧ (∀ w : World, (Op.stringOp .add (⟨s.toArray⟩ ++ ⟨a.toArray⟩) ⟨b.toArray⟩).run P w = .ok (.string (⟨s.toArray⟩ ++ ⟨a.toArray⟩ ++ ⟨b.toArray⟩)) w) ∧
      (∀ w : World, (Op.stringOp .add (⟨s.toArray⟩ ++ ⟨a.toArray⟩ ++ ⟨b.toArray⟩) ⟨c.toArray⟩).run P w = .ok (.string (⟨s.toArray⟩ ++ ⟨a.toArray⟩ ++ ⟨b.toArray⟩ ++ ⟨c.toArray⟩)) w) := by
  have z0 := bytes_le hs
  have z1 := bytes_le ha
  have z2 := bytes_le hb
  have z3 := bytes_le hc
  exact ⟨add_run z0 z1 (by decide), add_run (cat_le z0 z1) z2 (by decide), add_run (cat_le (cat_le z0 z1) z2) z3 (by decide)⟩
theorem three_eq (s a b c : List UInt8) : (⟨s.toArray⟩ : ByteArray) ++ ⟨a.toArray⟩ ++ ⟨b.toArray⟩ ++ ⟨c.toArray⟩ = ⟨(s ++ (a ++ (b ++ c))).toArray⟩ := by
  rw [bytes_app, bytes_app, bytes_app]
  simp
set_option maxHeartbeats 16000000 in
set_option maxRecDepth 100000 in
theorem rprint_c (K : List RK) (A : Option Addr) (c base p : Nat) (W : World) (h : RpIs W base p K A c) (hl : K.length ≤ 1000000) (hG : GOk (K.map (·.1))) :
    Calls Try.prog 18 #[.pointer (some ⟨p, 0, none⟩)] W (Good W (.string ⟨(printL (K.map (·.1))).toArray⟩)) := by
  have pc := (h.box.cell 0).trans (show _ = some (Value.slice A K.length c) from rfl)
  have hml : (K.map (·.1)).length = K.length := List.length_map _
  have hk0 := prK_zero (K.map (·.1))
  rw [hml] at hk0
  have HK0 := Lib.hid hk0
  have c0 := fun w => rput_c (K.length : Int) w (by omega) (by omega)
  rw [← hk0] at c0
  have H0 := Lib.hid h
  have HM := Lib.hid hml
  have HG := Lib.hid hG
  have HLN : Hid (∀ k, (prK (K.map (·.1)) k).length ≤ 180000010) := Lib.hid (fun k => by
    have := prK_len (K.map (·.1)) k (fun y hy => (hG.ghb hy).2.2.1.2)
    omega)
  clear h hml hk0 hG
  go_enter Try.func18, Try.ntmps18
  go_wp2_with fail
  with_reducible refine (c0 _).mono ?_
  rintro en w1 ⟨rfl, hb1⟩
  have H1 := Lib.hid (And.intro (H0.out.later hb1) hb1)
  clear hb1 pc c0 H0
  go_wp2_with fail
  go_loopw [3, 4] (fun sv i wr => ∃ k : Nat, i = .int .i64 k ∧ k ≤ K.length ∧ sv = .string ⟨(prK (K.map (·.1)) k).toArray⟩ ∧ RpIs wr base p K A c ∧ Below W.heap.size W wr) (fun _ i _ => K.length - (intOf i).toNat)
  case atStart => exact ⟨0, rfl, Nat.zero_le _, rfl, H1.out.1, H1.out.2⟩
  case round =>
    obtain ⟨k, rfl, hk, rfl, hR, hB⟩ := hrel
    have HR := Lib.hid hR
    have HB := Lib.hid hB
    have pc := (hR.box.cell 0).trans (show _ = some (Value.slice A K.length c) from rfl)
    clear H1 hR hB
    by_cases hkl : k < K.length
    · obtain ⟨x, hx⟩ : ∃ x, K[k]? = some x := ⟨_, List.getElem?_eq_getElem hkl⟩
      obtain ⟨g, rfl, _, q0, q1, q2, hgl, hKc⟩ := rk_cell HR.out.row hx
      have hxm := List.mem_of_getElem? hx
      have hsn0 := HR.out.sn x hxm
      obtain ⟨vA, vc, hv⟩ := hsn0.slc
      have hgb := HG.out.ghb (List.mem_map.2 ⟨x, hxm, rfl⟩ : x.1 ∈ K.map (·.1))
      have HGB := Lib.hid hgb
      have HPS := Lib.hid (prK_snoc (fst_at hx))
      have HS0 : Hid (RpS W base p wr.heap.size K (some ⟨g, 0, none⟩) c x (wr.alloc (.cells #[.int .i64 x.1.1, .int .i64 x.1.2.1, .slice vA x.1.2.2.length vc] 73))) := Lib.hid (by
        have hb : Below wr.heap.size wr (wr.alloc (.cells #[.int .i64 x.1.1, .int .i64 x.1.2.1, .slice vA x.1.2.2.length vc] 73)) := (Below.refl _ _).alloc (Nat.le_refl _) _
        exact ⟨HR.out.later hb, by rw [hv]; exact Box.new _ _ _, hsn0.later hb, HB.out.trans (hb.mono HB.out.size)⟩)
      have hK0 : (0 : Int) ≤ (k : Int) := by omega
      have hK1 : (k : Int) < (K.length : Int) := by omega
      have b1 := hgb.1
      have b2 := hgb.2.1
      have b3 := hgb.2.2.1
      have c1 := fun w => rput_c x.1.1 w (by omega) (by omega)
      have c2 := fun w => rput_c x.1.2.1 w (by omega) (by omega)
      have c3 := fun w => rput_c (x.1.2.2.length : Int) w (by omega) (by omega)
      obtain ⟨a1, a2, a3⟩ := three_run (P := Try.prog) (prK (K.map (·.1)) k) (putL x.1.1) (putL x.1.2.1) (putL (x.1.2.2.length : Int)) (by have := HLN.out k; omega) (putL_len _) (putL_len _) (putL_len _)
      have he := three_eq (prK (K.map (·.1)) k) (putL x.1.1) (putL x.1.2.1) (putL (x.1.2.2.length : Int))
      have hz : putL x.1.1 ++ (putL x.1.2.1 ++ putL (x.1.2.2.length : Int)) = oneK x.1 0 := by rw [oneK_zero]; simp [putsL]
      rw [hz] at he
      have HE := Lib.hid he
      rw [hv] at q2
      have HV := Lib.hid hv
      clear hx hxm hsn0 hgb he hz b1 b2 hv
      go_wp2_with fail
      have hS : (fun w => w.cell? ⟨wr.heap.size, 0, none⟩ = some (.int .i64 x.1.1) ∧ w.cell? ⟨wr.heap.size, 1, none⟩ = some (.int .i64 x.1.2.1) ∧ w.cell? ⟨wr.heap.size, 2, none⟩ = some (.slice vA x.1.2.2.length vc) ∧ RpS W base p wr.heap.size K (some ⟨g, 0, none⟩) c x w) (wr.alloc (.cells #[.int .i64 x.1.1, .int .i64 x.1.2.1, .slice vA x.1.2.2.length vc] 73)) := by
        obtain ⟨e0, e1, e2⟩ := on3 HS0.out.one
        exact ⟨e0, e1, by rw [e2, HV.out], HS0.out⟩
      generalize wr.heap.size = o at *
      generalize (wr.alloc (.cells #[.int .i64 x.1.1, .int .i64 x.1.2.1, .slice vA x.1.2.2.length vc] 73)) = w2 at *
      clear HR HB pc q0 q1 q2 HS0
      go_region_held3 (fun w => w.cell? ⟨o, 0, none⟩ = some (.int .i64 x.1.1) ∧ w.cell? ⟨o, 1, none⟩ = some (.int .i64 x.1.2.1) ∧ w.cell? ⟨o, 2, none⟩ = some (.slice vA x.1.2.2.length vc) ∧ RpS W base p o K (some ⟨g, 0, none⟩) c x w)
        (first | exact rps6 hS ((Below.refl _ _).drew) | exact rps6 (by assumption) (by assumption))
        (first
          | ((with_reducible refine (c1 _).mono ?_); rintro e w3 ⟨rfl, hb3⟩)
          | ((with_reducible refine (c2 _).mono ?_); rintro e w3 ⟨rfl, hb3⟩)
          | ((with_reducible refine (c3 _).mono ?_); rintro e w3 ⟨rfl, hb3⟩))
      all_goals
        have HS6 := Lib.hid (And.right (And.right (And.right (by assumption : (fun w => w.cell? ⟨o, 0, none⟩ = some (.int .i64 x.1.1) ∧ w.cell? ⟨o, 1, none⟩ = some (.int .i64 x.1.2.1) ∧ w.cell? ⟨o, 2, none⟩ = some (.slice vA x.1.2.2.length vc) ∧ RpS W base p o K (some ⟨g, 0, none⟩) c x w) _))))
        rw [HE.out]
        clear c1 c2 c3 a1 a2 a3 hS
        go_wp2_with fail
        go_loopw [3, 6] (fun sv i wr => ∃ j : Nat, i = .int .i64 j ∧ j ≤ x.1.2.2.length ∧ sv = .string ⟨(prK (K.map (·.1)) k ++ oneK x.1 j).toArray⟩ ∧ RpS W base p o K (some ⟨g, 0, none⟩) c x wr) (fun _ i _ => x.1.2.2.length - (intOf i).toNat)
        case atStart => exact ⟨0, rfl, Nat.zero_le _, rfl, HS6.out⟩
        case round =>
          obtain ⟨j, rfl, hj, rfl, hI⟩ := hrel
          have HI := Lib.hid hI
          clear hI
          have e2 := (on3 HI.out.one).2.2
          rw [HV.out] at e2
          have hj0 : (0 : Int) ≤ (j : Int) := by omega
          have hl5 : x.1.2.2.length ≤ 5 := HGB.out.2.2.1.2
          by_cases hjl : j < x.1.2.2.length
          · obtain ⟨s, hs⟩ : ∃ s, x.1.2.2[j]? = some s := ⟨_, List.getElem?_eq_getElem hjl⟩
            have hsn := HI.out.sn
            rw [HV.out] at hsn
            obtain ⟨u, uo, rfl, hvc, hul, s0, s1, s2⟩ := hsn.cell hs
            obtain ⟨m1, m2, m3⟩ := HGB.out.2.2.2 s (List.mem_of_getElem? hs)
            have d1 := fun w => rput_c s.1 w (by omega) (by omega)
            have d2 := fun w => rput_c s.2.1 w (by omega) (by omega)
            have d3 := fun w => rput_c s.2.2 w (by omega) (by omega)
            obtain ⟨f1, f2, f3⟩ := three_run (P := Try.prog) (prK (K.map (·.1)) k ++ oneK x.1 j) (putL s.1) (putL s.2.1) (putL s.2.2) (by
              have h1 := HLN.out k
              have h2 := oneK_len x.1 j
              rw [List.length_append]
              omega) (putL_len _) (putL_len _) (putL_len _)
            have he2 := three_eq (prK (K.map (·.1)) k ++ oneK x.1 j) (putL s.1) (putL s.2.1) (putL s.2.2)
            rw [← sentL_eq, List.append_assoc, oneK_snoc hs] at he2
            have HE2 := Lib.hid he2
            have hji : (j : Int) < (x.1.2.2.length : Int) := by omega
            clear hsn hs he2 m1 m2 m3
            have hS2 : (fun w => w.cell? ⟨o, 2, none⟩ = some (.slice (some ⟨u, uo, none⟩) x.1.2.2.length vc) ∧ w.cell? ⟨u, uo + j * 3, none⟩ = some (.int .i64 s.1) ∧ w.cell? ⟨u, uo + j * 3 + 1, none⟩ = some (.int .i64 s.2.1) ∧ w.cell? ⟨u, uo + j * 3 + 2, none⟩ = some (.int .i64 s.2.2) ∧ RpS W base p o K (some ⟨g, 0, none⟩) c x w) wr := ⟨e2, s0, s1, s2, HI.out⟩
            go_wp2_with fail
            clear HI e2 s0 s1 s2
            go_region_held3 (fun w => w.cell? ⟨o, 2, none⟩ = some (.slice (some ⟨u, uo, none⟩) x.1.2.2.length vc) ∧ w.cell? ⟨u, uo + j * 3, none⟩ = some (.int .i64 s.1) ∧ w.cell? ⟨u, uo + j * 3 + 1, none⟩ = some (.int .i64 s.2.1) ∧ w.cell? ⟨u, uo + j * 3 + 2, none⟩ = some (.int .i64 s.2.2) ∧ RpS W base p o K (some ⟨g, 0, none⟩) c x w)
              (first | exact rps10 hS2 ((Below.refl _ _).drew) | exact rps10 (by assumption) (by assumption))
              (first
                | ((with_reducible refine (d1 _).mono ?_); rintro e w3 ⟨rfl, hb3⟩)
                | ((with_reducible refine (d2 _).mono ?_); rintro e w3 ⟨rfl, hb3⟩)
                | ((with_reducible refine (d3 _).mono ?_); rintro e w3 ⟨rfl, hb3⟩))
            all_goals
              have HS7 := Lib.hid (And.right (And.right (And.right (And.right (by assumption : (fun w => w.cell? ⟨o, 2, none⟩ = some (.slice (some ⟨u, uo, none⟩) x.1.2.2.length vc) ∧ w.cell? ⟨u, uo + j * 3, none⟩ = some (.int .i64 s.1) ∧ w.cell? ⟨u, uo + j * 3 + 1, none⟩ = some (.int .i64 s.2.1) ∧ w.cell? ⟨u, uo + j * 3 + 2, none⟩ = some (.int .i64 s.2.2) ∧ RpS W base p o K (some ⟨g, 0, none⟩) c x w) _)))))
              rw [HE2.out]
              clear d1 d2 d3 f1 f2 f3 hS2
              go_wp2_with fail
              exact ⟨⟨j + 1, by go_num, hjl, rfl, HS7.out⟩, by simp [intOf]; omega⟩
          · have hje : ¬ (j : Int) < (x.1.2.2.length : Int) := by omega
            have HEN := Lib.hid (oneK_end x.1 (j := j) (by omega))
            have hR := HI.out.rp
            have hB := HI.out.bel
            have HR := Lib.hid hR
            have HB := Lib.hid hB
            have hle : K.length ≤ 1000000 := hl
            clear HI hR hB
            go_wp2_with fail
            exact ⟨⟨k + 1, by go_num, hkl, by rw [HEN.out, HPS.out], HR.out, HB.out⟩, by simp [intOf]; omega⟩
    · have hke : (K.map (·.1)).length ≤ k := by have := HM.out; omega
      have HE := Lib.hid (prK_end (K.map (·.1)) hke)
      have hki : ¬ (k : Int) < (K.length : Int) := by omega
      clear hke
      go_wp2_with fail
      go_ret
      exact ⟨by rw [HE.out]; rfl, HB.out⟩
theorem RO.print {W w : World} {p : Nat} {G : List GH} (h : RO W p G w) (hl : G.length ≤ 1000000) :
    Calls Try.prog 18 #[.pointer (some ⟨p, 0, none⟩)] w (fun en w' => en = .returned (.string ⟨(printL G).toArray⟩) ∧ RO W p G w' ∧ Below w.heap.size w w') := by
  obtain ⟨K, A, c, h1, hG⟩ := h.is
  have hl2 : K.length ≤ 1000000 := by rw [← hG, List.length_map] at hl; exact hl
  have := rprint_c K A c W.heap.size p w h1 hl2 (by rw [hG]; exact h.ok)
  rw [hG] at this
  refine Calls.mono this ?_
  rintro en w' ⟨rfl, hb⟩
  exact ⟨rfl, h.later hb, hb⟩
end Go.Proofs.Ytdhakekndinbeaa
