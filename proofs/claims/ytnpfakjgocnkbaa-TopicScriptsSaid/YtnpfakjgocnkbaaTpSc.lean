/- topic: the law TopicScripts walks to true. No condition. -/
import Derived.Test.YtnpfakjgocnkbaaTpSb
namespace Go.Proofs.Ytnpfakjgocnkbaa
open Go.RowKit
set_option linter.unusedVariables false
set_option maxHeartbeats 32000000 in
set_option maxRecDepth 100000 in
theorem topicScripts_walk (A : Option Addr) (c : Nat) (L : List OT) (W : World) (hL : OtsIn W A L) : Calls Try.prog 3 #[.slice A L.length c] W (Yes W) := by
  have cn := new_c W
  have HP := Lib.hid (Sc.new (W := W))
  have HL := Lib.hid hL
  have cl := fun w => live_c w
  unfold dp at cn
  unfold Yes at cl
  clear hL
  go_enter Try.func3, Try.ntmps3
  go_wp2_with fail
  with_reducible refine cn.mono ?_
  rintro en w0 ⟨rfl, hw0⟩
  rw [← hw0] at HP
  have HW0 : Hid (w0.heap.size = W.heap.size + 1) := Lib.hid (by rw [hw0]; simp)
  clear cn hw0
  go_wp2_with fail
  rw [HW0.out]
  generalize (w0.alloc (.cells #[.int .i64 0, .slice none 0 0] 28)) = w1 at *
  generalize hp : W.heap.size = p0 at *
  have HQ := Lib.hid hp
  clear hp HW0
  go_loopw [3, 5] (fun tv i wr => ∃ (k p : Nat) (t : TS), tv = .pointer (some ⟨p, 0, none⟩) ∧ i = .int .i64 k ∧ k ≤ L.length ∧ k ≤ 60 ∧ Sc W p (p0 + 1) t t wr) (fun _ i _ => 60 - (intOf i).toNat)
  case atStart => exact ⟨0, p0, (0, []), rfl, rfl, Nat.zero_le _, Nat.zero_le _, HP.out⟩
  case round =>
    obtain ⟨k, p, t, rfl, rfl, hk1, hk2, hT⟩ := hrel
    have HT := Lib.hid hT
    clear hT HP
    by_cases hkl : k < L.length
    · by_cases hk60 : k < 60
      · obtain ⟨x, hx⟩ : ∃ x, L[k]? = some x := ⟨_, List.getElem?_eq_getElem hkl⟩
        obtain ⟨b, off, rfl, hbl, z0, z1, z2, hxs⟩ := HL.out.at_ HT.out.to.bel hx
        have hi0 : (0 : Int) ≤ (k : Int) := by omega
        have hi1 : (k : Int) < (L.length : Int) := by omega
        have hi2 : (k : Int) < 60 := by omega
        have HK1 := Lib.hid hkl
        have HO : Hid (ScO W p (p0 + 1) t t wr.heap.size x (wr.alloc (.cells #[.int .i64 x.do_, .string x.name, .int .i64 x.parts] 30))) := Lib.hid ⟨HT.out.later ((Below.refl wr.heap.size wr).alloc (Nat.le_refl _) _), Box.new wr _ _⟩
        by_cases hd0 : x.do_ = 0
        · have hd1 : (x.do_ == (0 : Int)) = true := by rw [hd0]; rfl
          clear hx hd0
          obtain ⟨r, hr⟩ : ∃ r, crR t x.name.data.toList x.parts = r := ⟨_, rfl⟩
          obtain ⟨t', ht'⟩ : ∃ t', crS t x.name.data.toList x.parts = t' := ⟨_, rfl⟩
          obtain ⟨n, e⟩ := r
          have ca := HO.out.create hxs hr ht'
          have HR := Lib.hid hr
          have HT' := Lib.hid ht'
          clear hr ht'
          go_wp2_with fail
          with_reducible refine ca.mono ?_
          rintro en w2 ⟨rfl, h2⟩
          have H2 := Lib.hid h2
          obtain ⟨y0, y1, y2, yl⟩ := h2.cells
          have cb := h2.rcreate hxs HR.out HT'.out
          clear h2 ca z0 z1 z2
          go_wp2_with fail
          with_reducible refine cb.mono ?_
          rintro en w3 ⟨rfl, h3⟩
          have hsc := h3.sc
          clear h3 cb y0 y1 y2 yl H2 HO HT
          have HT2 := Lib.hid hsc
          obtain ⟨sp, hsp⟩ : ∃ sp, (⟨(printT t').toArray⟩ : ByteArray) = sp := ⟨_, rfl⟩
          have HSP := Lib.hid hsp
          have hmany := hsc.oku.many
          have ca := hsc.list
          clear hsc hsp
          go_wp2_with fail
          with_reducible refine ca.mono ?_
          rintro en w4 ⟨A1, c1, rfl, hr1, hb1⟩
          have H4 := Lib.hid (HT2.out.later hb1)
          have HR1 := Lib.hid hr1
          have cb := H4.out.rlist
          clear hr1 hb1 ca
          go_wp2_with fail
          with_reducible refine cb.mono ?_
          rintro en w5 ⟨A2, c2, rfl, hr2, hb2⟩
          have H5 := Lib.hid (H4.out.later hb2)
          have hr1 := own_below HR1.out hb2
          have cs := sameTop_c t'.2 t'.2 t'.2.length A1 A2 c1 c2 _ _ w5 rfl rfl rfl hr1 hr2 (by omega)
          clear hr1 hr2 hb2 cb
          go_wp2_with fail
          with_reducible refine cs.mono ?_
          rintro en w6 ⟨rfl, m, rfl⟩
          have H6 := Lib.hid (H5.out.later (below_drewN (Below.refl w5.heap.size w5) m))
          have cp := H6.out.print HSP.out
          clear cs
          go_wp2_with fail
          with_reducible refine cp.mono ?_
          rintro en w7 ⟨rfl, hb7⟩
          have H7 := Lib.hid (H6.out.later hb7)
          have cq := H7.out.rprint HSP.out
          clear hb7 cp
          go_wp2_with fail
          with_reducible refine cq.mono ?_
          rintro en w8 ⟨rfl, hb8⟩
          have H8 := Lib.hid (H7.out.later hb8)
          clear hb8 cq
          go_wp2_with fail
          go_roundw
          case rel => exact ⟨k + 1, _, t', rfl, by go_num, hkl, hk60, H8.out⟩
          case measure => simp [intOf]; omega
        · have hd1 : (x.do_ == (0 : Int)) = false := by simp [hd0]
          by_cases hd2 : x.do_ = 1
          · have hd3 : (x.do_ == (1 : Int)) = true := by rw [hd2]; rfl
            clear hx hd0 hd2
            obtain ⟨r, hr⟩ : ∃ r, deR t x.name.data.toList = r := ⟨_, rfl⟩
            obtain ⟨t', ht'⟩ : ∃ t', deS t x.name.data.toList = t' := ⟨_, rfl⟩
            obtain ⟨n, e⟩ := r
            have ca := HO.out.delete hxs hr ht'
            have HR := Lib.hid hr
            have HT' := Lib.hid ht'
            clear hr ht'
            go_wp2_with fail
            with_reducible refine ca.mono ?_
            rintro en w2 ⟨rfl, h2⟩
            have H2 := Lib.hid h2
            obtain ⟨y0, y1, y2, yl⟩ := h2.cells
            have cb := h2.rdelete HR.out HT'.out
            clear h2 ca z0 z1 z2
            go_wp2_with fail
            with_reducible refine cb.mono ?_
            rintro en w3 ⟨rfl, h3⟩
            have hsc := h3.sc
            clear h3 cb y0 y1 y2 yl H2 HO HT
            have HT2 := Lib.hid hsc
            obtain ⟨sp, hsp⟩ : ∃ sp, (⟨(printT t').toArray⟩ : ByteArray) = sp := ⟨_, rfl⟩
            have HSP := Lib.hid hsp
            have hmany := hsc.oku.many
            have ca := hsc.list
            clear hsc hsp
            go_wp2_with fail
            with_reducible refine ca.mono ?_
            rintro en w4 ⟨A1, c1, rfl, hr1, hb1⟩
            have H4 := Lib.hid (HT2.out.later hb1)
            have HR1 := Lib.hid hr1
            have cb := H4.out.rlist
            clear hr1 hb1 ca
            go_wp2_with fail
            with_reducible refine cb.mono ?_
            rintro en w5 ⟨A2, c2, rfl, hr2, hb2⟩
            have H5 := Lib.hid (H4.out.later hb2)
            have hr1 := own_below HR1.out hb2
            have cs := sameTop_c t'.2 t'.2 t'.2.length A1 A2 c1 c2 _ _ w5 rfl rfl rfl hr1 hr2 (by omega)
            clear hr1 hr2 hb2 cb
            go_wp2_with fail
            with_reducible refine cs.mono ?_
            rintro en w6 ⟨rfl, m, rfl⟩
            have H6 := Lib.hid (H5.out.later (below_drewN (Below.refl w5.heap.size w5) m))
            have cp := H6.out.print HSP.out
            clear cs
            go_wp2_with fail
            with_reducible refine cp.mono ?_
            rintro en w7 ⟨rfl, hb7⟩
            have H7 := Lib.hid (H6.out.later hb7)
            have cq := H7.out.rprint HSP.out
            clear hb7 cp
            go_wp2_with fail
            with_reducible refine cq.mono ?_
            rintro en w8 ⟨rfl, hb8⟩
            have H8 := Lib.hid (H7.out.later hb8)
            clear hb8 cq
            go_wp2_with fail
            go_roundw
            case rel => exact ⟨k + 1, _, t', rfl, by go_num, hkl, hk60, H8.out⟩
            case measure => simp [intOf]; omega
          · have hd3 : (x.do_ == (1 : Int)) = false := by simp [hd2]
            by_cases hd4 : x.do_ = 2
            · have hd5 : (x.do_ == (2 : Int)) = true := by rw [hd4]; rfl
              clear hx hd0 hd2 hd4
              rcases fi_find HT.out.oku x.name.data.toList with ⟨f1, f2⟩ | ⟨j, e, f1, f2, f3⟩
              · have ca := HO.out.find hxs f1
                have F2 := Lib.hid f2
                clear f1 f2
                go_wp2_with fail
                with_reducible refine ca.mono ?_
                rintro en w2 ⟨rfl, h2⟩
                have H2 := Lib.hid h2
                obtain ⟨y0, y1, y2, yl⟩ := h2.cells
                have cb := h2.sc.rfind x.name F2.out
                clear h2 ca z0 z1 z2
                go_wp2_with fail
                with_reducible refine cb.mono ?_
                rintro en w3 ⟨rfl, rfl⟩
                have hsc := H2.out.sc
                clear cb y0 y1 y2 yl H2 HO HT
                have HT2 := Lib.hid hsc
                obtain ⟨sp, hsp⟩ : ∃ sp, (⟨(printT t).toArray⟩ : ByteArray) = sp := ⟨_, rfl⟩
                have HSP := Lib.hid hsp
                have hmany := hsc.oku.many
                have ca := hsc.list
                clear hsc hsp
                go_wp2_with fail
                with_reducible refine ca.mono ?_
                rintro en w4 ⟨A1, c1, rfl, hr1, hb1⟩
                have H4 := Lib.hid (HT2.out.later hb1)
                have HR1 := Lib.hid hr1
                have cb := H4.out.rlist
                clear hr1 hb1 ca
                go_wp2_with fail
                with_reducible refine cb.mono ?_
                rintro en w5 ⟨A2, c2, rfl, hr2, hb2⟩
                have H5 := Lib.hid (H4.out.later hb2)
                have hr1 := own_below HR1.out hb2
                have cs := sameTop_c t.2 t.2 t.2.length A1 A2 c1 c2 _ _ w5 rfl rfl rfl hr1 hr2 (by omega)
                clear hr1 hr2 hb2 cb
                go_wp2_with fail
                with_reducible refine cs.mono ?_
                rintro en w6 ⟨rfl, m, rfl⟩
                have H6 := Lib.hid (H5.out.later (below_drewN (Below.refl w5.heap.size w5) m))
                have cp := H6.out.print HSP.out
                clear cs
                go_wp2_with fail
                with_reducible refine cp.mono ?_
                rintro en w7 ⟨rfl, hb7⟩
                have H7 := Lib.hid (H6.out.later hb7)
                have cq := H7.out.rprint HSP.out
                clear hb7 cp
                go_wp2_with fail
                with_reducible refine cq.mono ?_
                rintro en w8 ⟨rfl, hb8⟩
                have H8 := Lib.hid (H7.out.later hb8)
                clear hb8 cq
                go_wp2_with fail
                go_roundw
                case rel => exact ⟨k + 1, _, t, rfl, by go_num, hkl, hk60, H8.out⟩
                case measure => simp [intOf]; omega
              · have ca := HO.out.find hxs f1
                have F2 := Lib.hid f2
                have F3 := Lib.hid f3
                clear f1 f2 f3
                go_wp2_with fail
                with_reducible refine ca.mono ?_
                rintro en w2 ⟨rfl, h2⟩
                have H2 := Lib.hid h2
                obtain ⟨y0, y1, y2, yl⟩ := h2.cells
                have cb := h2.sc.rfind x.name F2.out
                obtain ⟨A, c, hd⟩ := h2.sc.doc
                obtain ⟨g, rfl, _, q0, q1, q2, hgl, hc⟩ := rt_cell rfl hd.row F3.out
                have d1 := (hd.box.cell 1).trans (show _ = some (Value.slice _ t.2.length c) from rfl)
                have hj0 : (0 : Int) ≤ (j : Int) := by omega
                have hj1 : (j : Int) < (t.2.length : Int) := by have := (List.getElem?_eq_some_iff.1 F3.out).1; omega
                have hjn : ¬ (j : Int) < 0 := by omega
                have hdl := hd.box.lt
                clear h2 ca z0 z1 z2 hd
                go_wp2_with fail
                with_reducible refine cb.mono ?_
                rintro en w3 ⟨rfl, rfl⟩
                have hsc := H2.out.sc
                clear cb y0 y1 y2 yl H2 HO HT
                have HT2 := Lib.hid hsc
                obtain ⟨sp, hsp⟩ : ∃ sp, (⟨(printT t).toArray⟩ : ByteArray) = sp := ⟨_, rfl⟩
                have HSP := Lib.hid hsp
                have hmany := hsc.oku.many
                have ca := hsc.list
                clear hsc hsp
                go_wp2_with fail
                with_reducible refine ca.mono ?_
                rintro en w4 ⟨A1, c1, rfl, hr1, hb1⟩
                have H4 := Lib.hid (HT2.out.later hb1)
                have HR1 := Lib.hid hr1
                have cb := H4.out.rlist
                clear hr1 hb1 ca
                go_wp2_with fail
                with_reducible refine cb.mono ?_
                rintro en w5 ⟨A2, c2, rfl, hr2, hb2⟩
                have H5 := Lib.hid (H4.out.later hb2)
                have hr1 := own_below HR1.out hb2
                have cs := sameTop_c t.2 t.2 t.2.length A1 A2 c1 c2 _ _ w5 rfl rfl rfl hr1 hr2 (by omega)
                clear hr1 hr2 hb2 cb
                go_wp2_with fail
                with_reducible refine cs.mono ?_
                rintro en w6 ⟨rfl, m, rfl⟩
                have H6 := Lib.hid (H5.out.later (below_drewN (Below.refl w5.heap.size w5) m))
                have cp := H6.out.print HSP.out
                clear cs
                go_wp2_with fail
                with_reducible refine cp.mono ?_
                rintro en w7 ⟨rfl, hb7⟩
                have H7 := Lib.hid (H6.out.later hb7)
                have cq := H7.out.rprint HSP.out
                clear hb7 cp
                go_wp2_with fail
                with_reducible refine cq.mono ?_
                rintro en w8 ⟨rfl, hb8⟩
                have H8 := Lib.hid (H7.out.later hb8)
                clear hb8 cq
                go_wp2_with fail
                go_roundw
                case rel => exact ⟨k + 1, _, t, rfl, by go_num, hkl, hk60, H8.out⟩
                case measure => simp [intOf]; omega
            · have hd5 : (x.do_ == (2 : Int)) = false := by simp [hd4]
              clear hx hd0 hd2 hd4
              obtain ⟨s0, hs0⟩ : ∃ s0, (⟨(printT t).toArray⟩ : ByteArray) = s0 := ⟨_, rfl⟩
              have ca := HO.out.sc.print hs0
              have HS0 := Lib.hid hs0
              clear hs0
              go_wp2_with fail
              with_reducible refine ca.mono ?_
              rintro en w2 ⟨rfl, hb2⟩
              have H2 := Lib.hid (HO.out.sc.later hb2)
              have cb := H2.out.parse HS0.out
              clear hb2 ca z0 z1 z2
              go_wp2_with fail
              with_reducible refine cb.mono ?_
              rintro en w3 ⟨p', rfl, hsc, _⟩
              clear cb H2 HO HT HS0
              have HT2 := Lib.hid hsc
              obtain ⟨sp, hsp⟩ : ∃ sp, (⟨(printT t).toArray⟩ : ByteArray) = sp := ⟨_, rfl⟩
              have HSP := Lib.hid hsp
              have hmany := hsc.oku.many
              have ca := hsc.list
              clear hsc hsp
              go_wp2_with fail
              with_reducible refine ca.mono ?_
              rintro en w4 ⟨A1, c1, rfl, hr1, hb1⟩
              have H4 := Lib.hid (HT2.out.later hb1)
              have HR1 := Lib.hid hr1
              have cb := H4.out.rlist
              clear hr1 hb1 ca
              go_wp2_with fail
              with_reducible refine cb.mono ?_
              rintro en w5 ⟨A2, c2, rfl, hr2, hb2⟩
              have H5 := Lib.hid (H4.out.later hb2)
              have hr1 := own_below HR1.out hb2
              have cs := sameTop_c t.2 t.2 t.2.length A1 A2 c1 c2 _ _ w5 rfl rfl rfl hr1 hr2 (by omega)
              clear hr1 hr2 hb2 cb
              go_wp2_with fail
              with_reducible refine cs.mono ?_
              rintro en w6 ⟨rfl, m, rfl⟩
              have H6 := Lib.hid (H5.out.later (below_drewN (Below.refl w5.heap.size w5) m))
              have cp := H6.out.print HSP.out
              clear cs
              go_wp2_with fail
              with_reducible refine cp.mono ?_
              rintro en w7 ⟨rfl, hb7⟩
              have H7 := Lib.hid (H6.out.later hb7)
              have cq := H7.out.rprint HSP.out
              clear hb7 cp
              go_wp2_with fail
              with_reducible refine cq.mono ?_
              rintro en w8 ⟨rfl, hb8⟩
              have H8 := Lib.hid (H7.out.later hb8)
              clear hb8 cq
              go_wp2_with fail
              go_roundw
              case rel => exact ⟨k + 1, _, t, rfl, by go_num, hkl, hk60, H8.out⟩
              case measure => simp [intOf]; omega
      · have hi1 : (k : Int) < (L.length : Int) := by omega
        have hi2 : ¬ (k : Int) < 60 := by omega
        clear hk60
        go_wp2_with fail
        with_reducible refine (cl _).mono ?_
        rintro en w5 ⟨rfl, hb⟩
        have HB := Lib.hid (HT.out.later hb)
        clear hb
        go_wp2_with fail
        go_ret
        exact ⟨rfl, HB.out.to.bel⟩
    · have hi1 : ¬ (k : Int) < (L.length : Int) := by omega
      clear hkl
      go_wp2_with fail
      with_reducible refine (cl _).mono ?_
      rintro en w5 ⟨rfl, hb⟩
      have HB := Lib.hid (HT.out.later hb)
      clear hb
      go_wp2_with fail
      go_ret
      exact ⟨rfl, HB.out.to.bel⟩
end Go.Proofs.Ytnpfakjgocnkbaa
