/- topic: the document's Parse, by a contract: the walk. No condition but the text's length. -/
import Derived.Test.YtnpfakjgocnkbaaTpDp
namespace Go.Proofs.Ytnpfakjgocnkbaa
open Go.RowKit
set_option linter.unusedVariables false
def naE (e : Int) (b : Bool) : Int := if e = 0 ∧ b = false then 3 else e
theorem naE_err {e : Int} (h : e ≠ 0) (b : Bool) : naE e b = e := by unfold naE; rw [if_neg (fun x => h x.1)]
theorem id_sym {a b : Int} {c : Bool} (h : (a == b) = c) : (b == a) = c := by rw [← h]; exact BEq.comm
theorem nm_less' (e : TE) (s : ByteArray) : Op.bytesLess (nmA e).toList s.toList = bytesBefore e.name s.data.toList := by rw [ByteArray.toList_eq, ByteArray.toList_eq, less_before, nmA_list]
set_option maxHeartbeats 32000000 in
set_option maxRecDepth 100000 in
theorem rparse_c (s : ByteArray) (W : World) (hs : s.size ≤ 1152921504606846976) : Calls Try.prog 22 #[.string s] W (GotRP W s) := by
  obtain ⟨i0, hq, hqz, hqs, hqb⟩ := info_parts onInfo'
  have hB1 : Below W.heap.size W (W.alloc (.cells #[.string s, .int .i64 0, .int .i64 0] 79)) := (Below.refl _ _).alloc (Nat.le_refl _) _
  have hsz1 : (W.alloc (.cells #[.string s, .int .i64 0, .int .i64 0] 79)).heap.size = W.heap.size + 1 := Array.size_push ..
  have H0 : Hid (TzS W W.heap.size (W.heap.size + 1) s 0 [] none 0 0 0 ((W.alloc (.cells #[.string s, .int .i64 0, .int .i64 0] 79)).alloc (.cells #[.int .i64 0, .slice none 0 0] 28))) := Lib.hid (by
    refine ⟨(Box.new W 79 (rdC s 0 0)).alloc _, ⟨?_, World.ownsRow_nil _ _ _ _⟩, hB1.alloc hB1.size _, Nat.le_refl _, Nat.le_succ _⟩
    have := Box.new (W.alloc (.cells #[.string s, .int .i64 0, .int .i64 0] 79)) 28 #[.int .i64 0, .slice none 0 0]
    rw [hsz1] at this
    exact this)
  clear hB1 hsz1
  obtain ⟨n, q1, e1, h1⟩ : ∃ n q1 e1, dnT s 0 1073741824 0 0 = (n, q1, e1) := ⟨_, _, _, rfl⟩
  obtain ⟨N, q2, e2, h2⟩ : ∃ n q' e', dnT s 0 20 q1 e1 = (n, q', e') := ⟨_, _, _, rfl⟩
  have HD0 := Lib.hid (dt_start h1 h2)
  have HH := Lib.hid h2
  have cw : ∀ {l m q e n q' e' : Int} (w : World), dnT s l m q e = (n, q', e') → Box w W.heap.size 79 (rdC s q e) → Calls Try.prog 34 #[.pointer (some ⟨W.heap.size, 0, none⟩), .int .i64 l, .int .i64 m] w (fun en w' => en = .returned (.int .i64 n) ∧ Box w' W.heap.size 79 (rdC s q' e') ∧ Off (· = W.heap.size) w w') := fun {l m q e n q' e'} w h hb => by
    have := dwithin_c s l m q e W.heap.size w hs hb
    rw [h] at this
    exact this
  have c1 := cw _ h1 H0.out.rd
  clear h1 h2
  go_enter Try.func22, Try.ntmps22
  go_wp2_with fail
  with_reducible refine c1.mono ?_
  rintro en w1 ⟨rfl, hx, ho⟩
  have HS1 := Lib.hid (H0.out.moved ho hx)
  obtain ⟨z0, z1, zl, zf, zf1⟩ := HS1.out.cells
  have HS2 := Lib.hid (HS1.out.next n)
  have c2 := cw _ HH.out HS2.out.rd
  clear c1 hx ho H0 HS1 z1 zf1
  go_wp2_with fail
  with_reducible refine c2.mono ?_
  generalize (w1.setCell ⟨W.heap.size + 1, 0, none⟩ (.int .i64 n)) = w1' at *
  rintro en w2 ⟨rfl, hx, ho⟩
  have HS3 := Lib.hid (HS2.out.moved ho hx)
  clear c2 hx ho HS2 HH z0 zl zf
  go_wp2_with fail
  go_loopw [7] (fun i wi => ∃ (k : Nat) (F : List TE) (A : Option Addr) (c : Nat) (q e : Int), i = .int .i64 k ∧ TzS W W.heap.size (W.heap.size + 1) s n F A c q e wi ∧ DT s n N k F q e) (fun i _ => N.toNat - (intOf i).toNat)
  case atStart => exact ⟨0, [], none, 0, q2, e2, rfl, HS3.out, HD0.out⟩
  case round =>
    obtain ⟨k, F, A, c, q, e, rfl, hS, hD⟩ := hrel
    have HS := Lib.hid hS
    have HD := Lib.hid hD
    clear hS hD HS3 HD0
    obtain ⟨x0, x1, x2, f1, f2⟩ := HS.out.rd.rd0
    by_cases hin : e = 0 ∧ (k : Int) < N
    · obtain ⟨rfl, hk⟩ := hin
      obtain ⟨hFk, hF20, _, h0⟩ := HD.out
      obtain ⟨hN, hiN, hn, _⟩ := h0 rfl
      have HFK := Lib.hid hFk
      have hw : IntKind.i64.wrap (n - 1) = n - 1 := by rw [IntKind.wrap_i64]; omega
      obtain ⟨nm, p1, e0, hnm⟩ : ∃ a b c, takeG s q 100 = (a, b, c) := ⟨_, _, _, rfl⟩
      have ct := rrdt_c s q 0 100 W.heap.size wr hs HS.out.rd
      rw [show rdT s 100 q 0 = (nm, p1, e0) from hnm] at ct
      unfold Moved at ct
      have HNA : Hid (naT s (lastN F) q 0 = (nm, p1, naE e0 (bytesBefore (lastN F) nm.data.toList))) := Lib.hid (by unfold naT naE; rw [if_pos rfl, hnm])
      have HHD := Lib.hid HD.out
      clear hnm h0 hFk
      go_wp2_with fail
      with_reducible refine ct.mono ?_
      rintro en w3 ⟨rfl, hx, ho⟩
      have HY := Lib.hid (TyS.new (HS.out.moved ho hx) nm)
      clear ct hx ho HS x0 x1 x2 f1 f2
      obtain ⟨y0, y1, y2, yl, g1, g2⟩ := HY.out.cells
      obtain ⟨r0, r1, r2, s1, s2⟩ := HY.out.z.rd.rd0
      obtain ⟨t0, t1, tl, tf0, tf1⟩ := HY.out.z.cells
      generalize ho : w3.heap.size = o at *
      by_cases he0 : e0 = 0
      · subst he0
        cases hem : (nm.data.toList == ([] : List UInt8)) with
        | true =>
          have hem1 : nm.toList.isEmpty = true := by rw [ByteArray.toList_eq]; simpa using hem
          have HEM : Hid (bytesBefore (lastN F) nm.data.toList = false) := Lib.hid (by
            have : nm.data.toList = [] := by simpa using hem
            rw [this]
            cases lastN F <;> rfl)
          clear hem
          go_wp2_with fail
          go_quiet (fail)
          have hna : naT s (lastN F) q 0 = (nm, p1, 3) := by rw [HNA.out, HEM.out]; rfl
          obtain ⟨id, q4, e4, h4⟩ : ∃ a b c, dnT s 0 (n - 1) p1 3 = (a, b, c) := ⟨_, _, _, rfl⟩
          obtain ⟨pt, q5, e5, h5⟩ : ∃ a b c, dnT s 1 16 q4 e4 = (a, b, c) := ⟨_, _, _, rfl⟩
          have HD5 := Lib.hid (dt_step HHD.out hk hna h4 h5)
          have H5 := Lib.hid h5
          have HYa := Lib.hid (HY.out.later (below_drewN (Below.refl (w3.alloc (.cells #[.string nm, .int .i64 0, .int .i64 0] 39)).heap.size (w3.alloc (.cells #[.string nm, .int .i64 0, .int .i64 0] 39))) nq))
          generalize ((w3.alloc (.cells #[.string nm, .int .i64 0, .int .i64 0] 39)).drewN nq) = wa at *
          clear y0 y1 y2 yl g1 g2 r0 r1 r2 s1 s2 t0 t1 tl tf0 tf1 HY hna h5 hem1
          obtain ⟨t0, t1, tl, tf0, tf1⟩ := HYa.out.z.cells
          obtain ⟨r0, r1, r2, s1, s2⟩ := HYa.out.z.rd.rd0
          have hrl := HYa.out.z.rd.lt
          have HYb := Lib.hid (HYa.out.moved (Off.one wa ⟨W.heap.size, 2, none⟩ (.int .i64 3)) (rdC_set1 (e' := 3) HYa.out.z.rd))
          have c3 := cw _ h4 HYb.out.z.rd
          clear h4
          go_wp2_with fail
          with_reducible refine c3.mono ?_
          generalize (wa.setCell ⟨W.heap.size, 2, none⟩ (.int .i64 3)) = wb at *
          rintro en w5 ⟨rfl, hx, ho5⟩
          have HY5 := Lib.hid (HYb.out.moved ho5 hx)
          clear c3 hx ho5 HYa HYb t0 t1 tl tf0 tf1 r0 r1 r2 s1 s2 hrl
          obtain ⟨y0, y1, y2, yl, g1, g2⟩ := HY5.out.cells
          have HY6 := Lib.hid (HY5.out.id_ id)
          have c4 := cw _ H5.out HY6.out.z.rd
          clear HY5
          go_wp2_with fail
          with_reducible refine c4.mono ?_
          generalize (w5.setCell ⟨o, 1, none⟩ (.int .i64 id)) = w5' at *
          rintro en w6 ⟨rfl, hx, ho6⟩
          have HY7 := Lib.hid (HY6.out.moved ho6 hx)
          clear c4 hx ho6 HY6 y0 y1 y2 yl g1 g2 H5
          obtain ⟨y0, y1, y2, yl, g1, g2⟩ := HY7.out.cells
          have HY8 := Lib.hid (HY7.out.pt_ pt)
          clear HY7
          go_wp2_with fail
          generalize (w6.setCell ⟨o, 2, none⟩ (.int .i64 pt)) = w7 at *
          clear y0 y1 y2 yl g1 g2
          obtain ⟨o0, o1, o2, ol, _, _⟩ := (HY8.out.later (Below.refl w7.heap.size w7).drew).cells
          have hz7 := HY8.out.z
          have pc := ((hz7.later (Below.refl w7.heap.size w7).drew).rt.box.cell 1).trans (show _ = some (Value.slice A F.length c) from rfl)
          have pc2 := ((hz7.later ((Below.refl w7.heap.size w7).alloc (Nat.le_refl _) (.cells #[.string nm, .int .i64 id, .int .i64 pt] 39))).rt.box.cell 1).trans (show _ = some (Value.slice A F.length c) from rfl)
          have HF := Lib.hid (fun g cap w' hown hg => hz7.put (w' := w') (g := g) (cap := cap) (nm := nm) (id := id) (pt := pt) (o := (.cells #[.string nm, .int .i64 id, .int .i64 pt] 39)) hown hg)
          have hrow := own_below (hz7.later (Below.refl w7.heap.size w7).drew).rt.row ((Below.refl w7.drew.heap.size w7.drew).alloc (Nat.le_refl _) (.cells #[.string nm, .int .i64 id, .int .i64 pt] 39))
          have hnw := news_at (Box.new w7.drew 39 #[.string nm, .int .i64 id, .int .i64 pt])
          have hbw : W.heap.size ≤ w7.heap.size := hz7.bel.size
          clear hz7
          go_region_law (refine step_append_lies (w7.alloc (.cells #[.string nm, .int .i64 id, .int .i64 pt] 39)).drew rfl (.tmp 84) (.tmp 86) 26 rfl W.heap.size 39 i0 (.agg #[.string ⟨#[]⟩, .int .i64 0, .int .i64 0]) 3 32 Try.underlying26 hq hqz hqs hqb rfl (by decide) (.slice A F.length c) F.length (rowT F) (by simp [Act.eval]) hrow ⟨w7.heap.size, 0, none⟩ 1 1 [.string nm, .int .i64 id, .int .i64 pt] (by simp [Act.eval]) rfl hnw (by simp [Value.oneCell']) (by decide) (by unfold maxLen; omega) (by omega) (by simp; omega) (w7.heap.size + 1) (by simp) ?_; intro g2 cap2 w9 hown9 hgrow9 hg9 hlt9; obtain ⟨k1, k2, k3⟩ := HF.out _ _ w9 hown9 hgrow9)
          all_goals
            have E3 := Lib.hid k3
            clear k3 hown9 hgrow9 hg9
            go_wp2_with fail
            go_roundw
            case rel => exact ⟨k + 1, F ++ [⟨nm.data.toList, id, pt⟩], some ⟨g2, 0, none⟩, cap2, q5, e5, by go_num, E3.out, HD5.out⟩
            case measure => simp [intOf]; omega
        | false =>
          have hem1 : nm.toList.isEmpty = false := by
            rw [ByteArray.toList_eq]
            cases hl : nm.data.toList with
            | nil => rw [hl] at hem; cases hem
            | cons a l => rfl
          have HNE := Lib.hid hem
          clear hem
          by_cases hk0 : k = 0
          · have HK0 := Lib.hid hk0
            have hk0i : decide ((0 : Int) < (k : Int)) = false := decide_eq_false (by omega)
            have hk0j : decide (0 < k) = false := decide_eq_false (by omega)
            clear hk0
            have HEM : Hid (bytesBefore (lastN F) nm.data.toList = true) := Lib.hid (by
              have : F = [] := by have := HFK.out; have := HK0.out; exact List.length_eq_zero_iff.1 (by omega)
              rw [this]
              show bytesBefore [] nm.data.toList = true
              have := HNE.out
              cases hl : nm.data.toList with
              | nil => rw [hl] at this; cases this
              | cons a l => rfl)
            go_wp2_with fail
            go_quiet (fail)
            have hna : naT s (lastN F) q 0 = (nm, p1, 0) := by rw [HNA.out, HEM.out]; rfl
            obtain ⟨id, q4, e4, h4⟩ : ∃ a b c, dnT s 0 (n - 1) p1 0 = (a, b, c) := ⟨_, _, _, rfl⟩
            obtain ⟨pt, q5, e5, h5⟩ : ∃ a b c, dnT s 1 16 q4 e4 = (a, b, c) := ⟨_, _, _, rfl⟩
            have HD5 := Lib.hid (dt_step HHD.out hk hna h4 h5)
            have H5 := Lib.hid h5
            have HYa := Lib.hid (HY.out.later (below_drewN (Below.refl (w3.alloc (.cells #[.string nm, .int .i64 0, .int .i64 0] 39)).heap.size (w3.alloc (.cells #[.string nm, .int .i64 0, .int .i64 0] 39))) nq))
            generalize ((w3.alloc (.cells #[.string nm, .int .i64 0, .int .i64 0] 39)).drewN nq) = wa at *
            clear y0 y1 y2 yl g1 g2 r0 r1 r2 s1 s2 t0 t1 tl tf0 tf1 HY hna h5 hem1 hk0i hk0j
            obtain ⟨t0, t1, tl, tf0, tf1⟩ := HYa.out.z.cells
            have c3 := cw _ h4 HYa.out.z.rd
            clear h4
            go_wp2_with fail
            with_reducible refine c3.mono ?_
            rintro en w5 ⟨rfl, hx, ho5⟩
            have HY5 := Lib.hid (HYa.out.moved ho5 hx)
            clear c3 hx ho5 HYa t0 t1 tl tf0 tf1
            obtain ⟨y0, y1, y2, yl, g1, g2⟩ := HY5.out.cells
            have HY6 := Lib.hid (HY5.out.id_ id)
            have c4 := cw _ H5.out HY6.out.z.rd
            clear HY5
            go_wp2_with fail
            with_reducible refine c4.mono ?_
            generalize (w5.setCell ⟨o, 1, none⟩ (.int .i64 id)) = w5' at *
            rintro en w6 ⟨rfl, hx, ho6⟩
            have HY7 := Lib.hid (HY6.out.moved ho6 hx)
            clear c4 hx ho6 HY6 y0 y1 y2 yl g1 g2 H5
            obtain ⟨y0, y1, y2, yl, g1, g2⟩ := HY7.out.cells
            have HY8 := Lib.hid (HY7.out.pt_ pt)
            clear HY7
            go_wp2_with fail
            generalize (w6.setCell ⟨o, 2, none⟩ (.int .i64 pt)) = w7 at *
            clear y0 y1 y2 yl g1 g2
            obtain ⟨o0, o1, o2, ol, _, _⟩ := (HY8.out.later (Below.refl w7.heap.size w7).drew).cells
            have hz7 := HY8.out.z
            have pc := ((hz7.later (Below.refl w7.heap.size w7).drew).rt.box.cell 1).trans (show _ = some (Value.slice A F.length c) from rfl)
            have pc2 := ((hz7.later ((Below.refl w7.heap.size w7).alloc (Nat.le_refl _) (.cells #[.string nm, .int .i64 id, .int .i64 pt] 39))).rt.box.cell 1).trans (show _ = some (Value.slice A F.length c) from rfl)
            have HF := Lib.hid (fun g cap w' hown hg => hz7.put (w' := w') (g := g) (cap := cap) (nm := nm) (id := id) (pt := pt) (o := (.cells #[.string nm, .int .i64 id, .int .i64 pt] 39)) hown hg)
            have hrow := own_below (hz7.later (Below.refl w7.heap.size w7).drew).rt.row ((Below.refl w7.drew.heap.size w7.drew).alloc (Nat.le_refl _) (.cells #[.string nm, .int .i64 id, .int .i64 pt] 39))
            have hnw := news_at (Box.new w7.drew 39 #[.string nm, .int .i64 id, .int .i64 pt])
            have hbw : W.heap.size ≤ w7.heap.size := hz7.bel.size
            clear hz7
            go_region_law (refine step_append_lies (w7.alloc (.cells #[.string nm, .int .i64 id, .int .i64 pt] 39)).drew rfl (.tmp 84) (.tmp 86) 26 rfl W.heap.size 39 i0 (.agg #[.string ⟨#[]⟩, .int .i64 0, .int .i64 0]) 3 32 Try.underlying26 hq hqz hqs hqb rfl (by decide) (.slice A F.length c) F.length (rowT F) (by simp [Act.eval]) hrow ⟨w7.heap.size, 0, none⟩ 1 1 [.string nm, .int .i64 id, .int .i64 pt] (by simp [Act.eval]) rfl hnw (by simp [Value.oneCell']) (by decide) (by unfold maxLen; omega) (by omega) (by simp; omega) (w7.heap.size + 1) (by simp) ?_; intro g2 cap2 w9 hown9 hgrow9 hg9 hlt9; obtain ⟨k1, k2, k3⟩ := HF.out _ _ w9 hown9 hgrow9)
            all_goals
              have E3 := Lib.hid k3
              clear k3 hown9 hgrow9 hg9
              go_wp2_with fail
              go_roundw
              case rel => exact ⟨k + 1, F ++ [⟨nm.data.toList, id, pt⟩], some ⟨g2, 0, none⟩, cap2, q5, e5, by go_num, E3.out, HD5.out⟩
              case measure => simp [intOf]; omega
          · obtain ⟨j, rfl⟩ : ∃ j, k = j + 1 := ⟨k - 1, by omega⟩
            obtain ⟨y, hy⟩ : ∃ y, F[j]? = some y := ⟨_, List.getElem?_eq_getElem (by have := HFK.out; omega)⟩
            obtain ⟨g, rfl, _, u0, u1, u2, hgl, hc⟩ := rt_cell rfl HY.out.z.rt.row hy
            have hls := nm_less' y nm
            have hw2 : IntKind.i64.wrap (((j + 1 : Nat) : Int) - 1) = (j : Int) := by rw [IntKind.wrap_i64]; omega
            have hj1 : (0 : Int) < ((j + 1 : Nat) : Int) := by omega
            have hj2 : (0 : Int) ≤ (j : Int) := by omega
            have hj3 : (j : Int) < (F.length : Int) := by have := HFK.out; omega
            have HLA : Hid (lastN F = y.name) := Lib.hid (by
              have hL := HFK.out
              have : F = F.take j ++ [y] := by
                rw [← tk_snoc hy, List.take_of_length_le (by omega)]
              rw [this, lastN_snoc])
            clear hy hk0
            cases hbb : bytesBefore y.name nm.data.toList with
            | true =>
              rw [hbb] at hls
              have HEM : Hid (bytesBefore (lastN F) nm.data.toList = true) := Lib.hid (by rw [HLA.out]; exact hbb)
              clear hbb
              go_wp2_with fail
              go_quiet (fail)
              have hna : naT s (lastN F) q 0 = (nm, p1, 0) := by rw [HNA.out, HEM.out]; rfl
              obtain ⟨id, q4, e4, h4⟩ : ∃ a b c, dnT s 0 (n - 1) p1 0 = (a, b, c) := ⟨_, _, _, rfl⟩
              obtain ⟨pt, q5, e5, h5⟩ : ∃ a b c, dnT s 1 16 q4 e4 = (a, b, c) := ⟨_, _, _, rfl⟩
              have HD5 := Lib.hid (dt_step HHD.out hk hna h4 h5)
              have H5 := Lib.hid h5
              have HYa := Lib.hid (HY.out.later (below_drewN (Below.refl (w3.alloc (.cells #[.string nm, .int .i64 0, .int .i64 0] 39)).heap.size (w3.alloc (.cells #[.string nm, .int .i64 0, .int .i64 0] 39))) nq))
              generalize ((w3.alloc (.cells #[.string nm, .int .i64 0, .int .i64 0] 39)).drewN nq) = wa at *
              clear y0 y1 y2 yl g1 g2 r0 r1 r2 s1 s2 t0 t1 tl tf0 tf1 HY hna h5 hem1 hls hw2 hj1 hj2 hj3 u0 u1 u2 hgl hc
              obtain ⟨t0, t1, tl, tf0, tf1⟩ := HYa.out.z.cells
              have c3 := cw _ h4 HYa.out.z.rd
              clear h4
              go_wp2_with fail
              with_reducible refine c3.mono ?_
              rintro en w5 ⟨rfl, hx, ho5⟩
              have HY5 := Lib.hid (HYa.out.moved ho5 hx)
              clear c3 hx ho5 HYa t0 t1 tl tf0 tf1
              obtain ⟨y0, y1, y2, yl, g1, g2⟩ := HY5.out.cells
              have HY6 := Lib.hid (HY5.out.id_ id)
              have c4 := cw _ H5.out HY6.out.z.rd
              clear HY5
              go_wp2_with fail
              with_reducible refine c4.mono ?_
              generalize (w5.setCell ⟨o, 1, none⟩ (.int .i64 id)) = w5' at *
              rintro en w6 ⟨rfl, hx, ho6⟩
              have HY7 := Lib.hid (HY6.out.moved ho6 hx)
              clear c4 hx ho6 HY6 y0 y1 y2 yl g1 g2 H5
              obtain ⟨y0, y1, y2, yl, g1, g2⟩ := HY7.out.cells
              have HY8 := Lib.hid (HY7.out.pt_ pt)
              clear HY7
              go_wp2_with fail
              generalize (w6.setCell ⟨o, 2, none⟩ (.int .i64 pt)) = w7 at *
              clear y0 y1 y2 yl g1 g2
              obtain ⟨o0, o1, o2, ol, _, _⟩ := (HY8.out.later (Below.refl w7.heap.size w7).drew).cells
              have hz7 := HY8.out.z
              have pc := ((hz7.later (Below.refl w7.heap.size w7).drew).rt.box.cell 1).trans (show _ = some (Value.slice (some ⟨g, 0, none⟩) F.length c) from rfl)
              have pc2 := ((hz7.later ((Below.refl w7.heap.size w7).alloc (Nat.le_refl _) (.cells #[.string nm, .int .i64 id, .int .i64 pt] 39))).rt.box.cell 1).trans (show _ = some (Value.slice (some ⟨g, 0, none⟩) F.length c) from rfl)
              have HF := Lib.hid (fun g cap w' hown hg => hz7.put (w' := w') (g := g) (cap := cap) (nm := nm) (id := id) (pt := pt) (o := (.cells #[.string nm, .int .i64 id, .int .i64 pt] 39)) hown hg)
              have hrow := own_below (hz7.later (Below.refl w7.heap.size w7).drew).rt.row ((Below.refl w7.drew.heap.size w7.drew).alloc (Nat.le_refl _) (.cells #[.string nm, .int .i64 id, .int .i64 pt] 39))
              have hnw := news_at (Box.new w7.drew 39 #[.string nm, .int .i64 id, .int .i64 pt])
              have hbw : W.heap.size ≤ w7.heap.size := hz7.bel.size
              clear hz7
              go_region_law (refine step_append_lies (w7.alloc (.cells #[.string nm, .int .i64 id, .int .i64 pt] 39)).drew rfl (.tmp 84) (.tmp 86) 26 rfl W.heap.size 39 i0 (.agg #[.string ⟨#[]⟩, .int .i64 0, .int .i64 0]) 3 32 Try.underlying26 hq hqz hqs hqb rfl (by decide) (.slice (some ⟨g, 0, none⟩) F.length c) F.length (rowT F) (by simp [Act.eval]) hrow ⟨w7.heap.size, 0, none⟩ 1 1 [.string nm, .int .i64 id, .int .i64 pt] (by simp [Act.eval]) rfl hnw (by simp [Value.oneCell']) (by decide) (by unfold maxLen; omega) (by omega) (by simp; omega) (w7.heap.size + 1) (by simp) ?_; intro g2 cap2 w9 hown9 hgrow9 hg9 hlt9; obtain ⟨k1, k2, k3⟩ := HF.out _ _ w9 hown9 hgrow9)
              all_goals
                have E3 := Lib.hid k3
                clear k3 hown9 hgrow9 hg9
                go_wp2_with fail
                go_roundw
                case rel => exact ⟨j + 1 + 1, F ++ [⟨nm.data.toList, id, pt⟩], some ⟨g2, 0, none⟩, cap2, q5, e5, by go_num, E3.out, HD5.out⟩
                case measure => simp [intOf]; omega
            | false =>
              rw [hbb] at hls
              have HEM : Hid (bytesBefore (lastN F) nm.data.toList = false) := Lib.hid (by rw [HLA.out]; exact hbb)
              clear hbb
              go_wp2_with fail
              go_quiet (fail)
              have hna : naT s (lastN F) q 0 = (nm, p1, 3) := by rw [HNA.out, HEM.out]; rfl
              obtain ⟨id, q4, e4, h4⟩ : ∃ a b c, dnT s 0 (n - 1) p1 3 = (a, b, c) := ⟨_, _, _, rfl⟩
              obtain ⟨pt, q5, e5, h5⟩ : ∃ a b c, dnT s 1 16 q4 e4 = (a, b, c) := ⟨_, _, _, rfl⟩
              have HD5 := Lib.hid (dt_step HHD.out hk hna h4 h5)
              have H5 := Lib.hid h5
              have HYa := Lib.hid (HY.out.later (below_drewN (Below.refl (w3.alloc (.cells #[.string nm, .int .i64 0, .int .i64 0] 39)).heap.size (w3.alloc (.cells #[.string nm, .int .i64 0, .int .i64 0] 39))) nq))
              generalize ((w3.alloc (.cells #[.string nm, .int .i64 0, .int .i64 0] 39)).drewN nq) = wa at *
              clear y0 y1 y2 yl g1 g2 r0 r1 r2 s1 s2 t0 t1 tl tf0 tf1 HY hna h5 hem1 hls hw2 hj1 hj2 hj3 u0 u1 u2 hgl hc
              obtain ⟨t0, t1, tl, tf0, tf1⟩ := HYa.out.z.cells
              obtain ⟨r0, r1, r2, s1, s2⟩ := HYa.out.z.rd.rd0
              have hrl := HYa.out.z.rd.lt
              have HYb := Lib.hid (HYa.out.moved (Off.one wa ⟨W.heap.size, 2, none⟩ (.int .i64 3)) (rdC_set1 (e' := 3) HYa.out.z.rd))
              have c3 := cw _ h4 HYb.out.z.rd
              clear h4
              go_wp2_with fail
              with_reducible refine c3.mono ?_
              generalize (wa.setCell ⟨W.heap.size, 2, none⟩ (.int .i64 3)) = wb at *
              rintro en w5 ⟨rfl, hx, ho5⟩
              have HY5 := Lib.hid (HYb.out.moved ho5 hx)
              clear c3 hx ho5 HYa HYb t0 t1 tl tf0 tf1 r0 r1 r2 s1 s2 hrl
              obtain ⟨y0, y1, y2, yl, g1, g2⟩ := HY5.out.cells
              have HY6 := Lib.hid (HY5.out.id_ id)
              have c4 := cw _ H5.out HY6.out.z.rd
              clear HY5
              go_wp2_with fail
              with_reducible refine c4.mono ?_
              generalize (w5.setCell ⟨o, 1, none⟩ (.int .i64 id)) = w5' at *
              rintro en w6 ⟨rfl, hx, ho6⟩
              have HY7 := Lib.hid (HY6.out.moved ho6 hx)
              clear c4 hx ho6 HY6 y0 y1 y2 yl g1 g2 H5
              obtain ⟨y0, y1, y2, yl, g1, g2⟩ := HY7.out.cells
              have HY8 := Lib.hid (HY7.out.pt_ pt)
              clear HY7
              go_wp2_with fail
              generalize (w6.setCell ⟨o, 2, none⟩ (.int .i64 pt)) = w7 at *
              clear y0 y1 y2 yl g1 g2
              obtain ⟨o0, o1, o2, ol, _, _⟩ := (HY8.out.later (Below.refl w7.heap.size w7).drew).cells
              have hz7 := HY8.out.z
              have pc := ((hz7.later (Below.refl w7.heap.size w7).drew).rt.box.cell 1).trans (show _ = some (Value.slice (some ⟨g, 0, none⟩) F.length c) from rfl)
              have pc2 := ((hz7.later ((Below.refl w7.heap.size w7).alloc (Nat.le_refl _) (.cells #[.string nm, .int .i64 id, .int .i64 pt] 39))).rt.box.cell 1).trans (show _ = some (Value.slice (some ⟨g, 0, none⟩) F.length c) from rfl)
              have HF := Lib.hid (fun g cap w' hown hg => hz7.put (w' := w') (g := g) (cap := cap) (nm := nm) (id := id) (pt := pt) (o := (.cells #[.string nm, .int .i64 id, .int .i64 pt] 39)) hown hg)
              have hrow := own_below (hz7.later (Below.refl w7.heap.size w7).drew).rt.row ((Below.refl w7.drew.heap.size w7.drew).alloc (Nat.le_refl _) (.cells #[.string nm, .int .i64 id, .int .i64 pt] 39))
              have hnw := news_at (Box.new w7.drew 39 #[.string nm, .int .i64 id, .int .i64 pt])
              have hbw : W.heap.size ≤ w7.heap.size := hz7.bel.size
              clear hz7
              go_region_law (refine step_append_lies (w7.alloc (.cells #[.string nm, .int .i64 id, .int .i64 pt] 39)).drew rfl (.tmp 84) (.tmp 86) 26 rfl W.heap.size 39 i0 (.agg #[.string ⟨#[]⟩, .int .i64 0, .int .i64 0]) 3 32 Try.underlying26 hq hqz hqs hqb rfl (by decide) (.slice (some ⟨g, 0, none⟩) F.length c) F.length (rowT F) (by simp [Act.eval]) hrow ⟨w7.heap.size, 0, none⟩ 1 1 [.string nm, .int .i64 id, .int .i64 pt] (by simp [Act.eval]) rfl hnw (by simp [Value.oneCell']) (by decide) (by unfold maxLen; omega) (by omega) (by simp; omega) (w7.heap.size + 1) (by simp) ?_; intro g2 cap2 w9 hown9 hgrow9 hg9 hlt9; obtain ⟨k1, k2, k3⟩ := HF.out _ _ w9 hown9 hgrow9)
              all_goals
                have E3 := Lib.hid k3
                clear k3 hown9 hgrow9 hg9
                go_wp2_with fail
                go_roundw
                case rel => exact ⟨j + 1 + 1, F ++ [⟨nm.data.toList, id, pt⟩], some ⟨g2, 0, none⟩, cap2, q5, e5, by go_num, E3.out, HD5.out⟩
                case measure => simp [intOf]; omega
      · have he1 : (e0 == (0 : Int)) = false := by simp [he0]
        have HEZ := Lib.hid he0
        clear he0
        go_wp2_with fail
        go_quiet (fail)
        have hna : naT s (lastN F) q 0 = (nm, p1, e0) := by rw [HNA.out, naE_err HEZ.out]
        obtain ⟨id, q4, e4, h4⟩ : ∃ a b c, dnT s 0 (n - 1) p1 e0 = (a, b, c) := ⟨_, _, _, rfl⟩
        obtain ⟨pt, q5, e5, h5⟩ : ∃ a b c, dnT s 1 16 q4 e4 = (a, b, c) := ⟨_, _, _, rfl⟩
        have HD5 := Lib.hid (dt_step HHD.out hk hna h4 h5)
        have H5 := Lib.hid h5
        have HYa := Lib.hid (HY.out.later (below_drewN (Below.refl (w3.alloc (.cells #[.string nm, .int .i64 0, .int .i64 0] 39)).heap.size (w3.alloc (.cells #[.string nm, .int .i64 0, .int .i64 0] 39))) nq))
        generalize ((w3.alloc (.cells #[.string nm, .int .i64 0, .int .i64 0] 39)).drewN nq) = wa at *
        clear y0 y1 y2 yl g1 g2 r0 r1 r2 s1 s2 t0 t1 tl tf0 tf1 HY hna h5 he1
        obtain ⟨t0, t1, tl, tf0, tf1⟩ := HYa.out.z.cells
        have c3 := cw _ h4 HYa.out.z.rd
        clear h4
        go_wp2_with fail
        with_reducible refine c3.mono ?_
        rintro en w5 ⟨rfl, hx, ho5⟩
        have HY5 := Lib.hid (HYa.out.moved ho5 hx)
        clear c3 hx ho5 HYa t0 t1 tl tf0 tf1
        obtain ⟨y0, y1, y2, yl, g1, g2⟩ := HY5.out.cells
        have HY6 := Lib.hid (HY5.out.id_ id)
        have c4 := cw _ H5.out HY6.out.z.rd
        clear HY5
        go_wp2_with fail
        with_reducible refine c4.mono ?_
        generalize (w5.setCell ⟨o, 1, none⟩ (.int .i64 id)) = w5' at *
        rintro en w6 ⟨rfl, hx, ho6⟩
        have HY7 := Lib.hid (HY6.out.moved ho6 hx)
        clear c4 hx ho6 HY6 y0 y1 y2 yl g1 g2 H5
        obtain ⟨y0, y1, y2, yl, g1, g2⟩ := HY7.out.cells
        have HY8 := Lib.hid (HY7.out.pt_ pt)
        clear HY7
        go_wp2_with fail
        generalize (w6.setCell ⟨o, 2, none⟩ (.int .i64 pt)) = w7 at *
        clear y0 y1 y2 yl g1 g2
        obtain ⟨o0, o1, o2, ol, _, _⟩ := (HY8.out.later (Below.refl w7.heap.size w7).drew).cells
        have hz7 := HY8.out.z
        have pc := ((hz7.later (Below.refl w7.heap.size w7).drew).rt.box.cell 1).trans (show _ = some (Value.slice A F.length c) from rfl)
        have pc2 := ((hz7.later ((Below.refl w7.heap.size w7).alloc (Nat.le_refl _) (.cells #[.string nm, .int .i64 id, .int .i64 pt] 39))).rt.box.cell 1).trans (show _ = some (Value.slice A F.length c) from rfl)
        have HF := Lib.hid (fun g cap w' hown hg => hz7.put (w' := w') (g := g) (cap := cap) (nm := nm) (id := id) (pt := pt) (o := (.cells #[.string nm, .int .i64 id, .int .i64 pt] 39)) hown hg)
        have hrow := own_below (hz7.later (Below.refl w7.heap.size w7).drew).rt.row ((Below.refl w7.drew.heap.size w7.drew).alloc (Nat.le_refl _) (.cells #[.string nm, .int .i64 id, .int .i64 pt] 39))
        have hnw := news_at (Box.new w7.drew 39 #[.string nm, .int .i64 id, .int .i64 pt])
        have hbw : W.heap.size ≤ w7.heap.size := hz7.bel.size
        clear hz7
        go_region_law (refine step_append_lies (w7.alloc (.cells #[.string nm, .int .i64 id, .int .i64 pt] 39)).drew rfl (.tmp 84) (.tmp 86) 26 rfl W.heap.size 39 i0 (.agg #[.string ⟨#[]⟩, .int .i64 0, .int .i64 0]) 3 32 Try.underlying26 hq hqz hqs hqb rfl (by decide) (.slice A F.length c) F.length (rowT F) (by simp [Act.eval]) hrow ⟨w7.heap.size, 0, none⟩ 1 1 [.string nm, .int .i64 id, .int .i64 pt] (by simp [Act.eval]) rfl hnw (by simp [Value.oneCell']) (by decide) (by unfold maxLen; omega) (by omega) (by simp; omega) (w7.heap.size + 1) (by simp) ?_; intro g2 cap2 w9 hown9 hgrow9 hg9 hlt9; obtain ⟨k1, k2, k3⟩ := HF.out _ _ w9 hown9 hgrow9)
        all_goals
          have E3 := Lib.hid k3
          clear k3 hown9 hgrow9 hg9
          go_wp2_with fail
          go_roundw
          case rel => exact ⟨k + 1, F ++ [⟨nm.data.toList, id, pt⟩], some ⟨g2, 0, none⟩, cap2, q5, e5, by go_num, E3.out, HD5.out⟩
          case measure => simp [intOf]; omega
    · have hF20 := HD.out.2.1
      have hex : (¬ ((k : Int) < N) ∧ e = 0) ∨ (¬ ((k : Int) < N) ∧ e ≠ 0) ∨ ((k : Int) < N ∧ e ≠ 0) := by
        by_cases h : (k : Int) < N
        · exact .inr (.inr ⟨h, fun he => hin ⟨he, h⟩⟩)
        · by_cases he : e = 0
          · exact .inl ⟨h, he⟩
          · exact .inr (.inl ⟨h, he⟩)
      clear hin
      rcases hex with ⟨hk, rfl⟩ | ⟨hk, he⟩ | ⟨hk, he⟩
      · have hfi := dt_fin HD.out (.inr hk)
        have hrl := HS.out.rd.lt
        by_cases hqs2 : q = (s.size : Int)
        · have hq1 : (q != (s.size : Int)) = false := by rw [hqs2]; simp
          rw [hq1, erE_false] at hfi
          have HFI := Lib.hid hfi
          have HZ := HS
          clear HS hfi hqs2
          go_wp2_with fail
          go_loopw [9] (fun i wi => ∃ (j : Nat), i = .int .i64 j ∧ j ≤ F.length ∧ TzS W W.heap.size (W.heap.size + 1) s n F A c q (erE 0 (twB (F.take j))) wi) (fun i _ => F.length - (intOf i).toNat)
          case atStart => exact ⟨0, rfl, Nat.zero_le _, by rw [List.take_zero, twB_nil, erE_false]; exact HZ.out⟩
          case round =>
            obtain ⟨j, rfl, hj, hZ⟩ := hrel
            have HJ := Lib.hid hZ
            clear HZ hZ
            obtain ⟨t0, t1, tl, tf0, tf1⟩ := HJ.out.cells
            by_cases hjl : j < F.length
            · obtain ⟨x, hx⟩ : ∃ x, F[j]? = some x := ⟨_, List.getElem?_eq_getElem hjl⟩
              have HX := Lib.hid hx
              have hji : (j : Int) < (F.length : Int) := by omega
              clear hx
              go_wp2_with fail
              go_loopw [10] (fun m wi => ∃ (m' : Nat), m = .int .i64 m' ∧ m' ≤ j ∧ TzS W W.heap.size (W.heap.size + 1) s n F A c q (erE 0 (dupB F x j m')) wi) (fun m _ => j - (intOf m).toNat)
              case atStart => exact ⟨0, rfl, Nat.zero_le _, by rw [dupB_zero]; exact HJ.out⟩
              case round =>
                obtain ⟨m, rfl, hm, hZ⟩ := hrel
                clear HJ t0 t1 tl tf0 tf1
                by_cases hmj : m < j
                · obtain ⟨y, hy⟩ : ∃ y, F[m]? = some y := ⟨_, List.getElem?_eq_getElem (by omega)⟩
                  have HSN := Lib.hid (dupB_snoc (x := x) (i := j) hy)
                  obtain ⟨e2, he2⟩ : ∃ e2, erE 0 (dupB F x j m) = e2 := ⟨_, rfl⟩
                  have HE2 := Lib.hid he2
                  rw [he2] at hZ
                  have HM := Lib.hid hZ
                  obtain ⟨g, rfl, _, u0, u1, u2, hgl, hc⟩ := rt_cell rfl hZ.rt.row hy
                  obtain ⟨g', hgg, _, v0, v1, v2, _, _⟩ := rt_cell rfl hZ.rt.row HX.out
                  injection hgg with hgg
                  injection hgg with hgg
                  subst hgg
                  obtain ⟨t0, t1, tl, tf0, tf1⟩ := hZ.cells
                  obtain ⟨r0, r1, r2, s1, s2⟩ := hZ.rd.rd0
                  have hrl := hZ.rd.lt
                  have hmi : (m : Int) < (j : Int) := by omega
                  have hm0 : (0 : Int) ≤ (m : Int) := by omega
                  have hm1 : (m : Int) < (F.length : Int) := by omega
                  have hj0 : (0 : Int) ≤ (j : Int) := by omega
                  clear hy he2 hZ v0 v2 u0 u2
                  by_cases hez : e2 = 0
                  · subst hez
                    cases hxy : (x.id == y.id) with
                    | true =>
                      have hyx := Lib.hid (id_sym hxy)
                      go_wp2_with fail
                      go_quiet (fail)
                      have HMa := Lib.hid (HM.out.later (below_drewN (Below.refl wr.heap.size wr) nq))
                      generalize wr.drewN nq = wa at *
                      have HMb := Lib.hid (HMa.out.err 3)
                      clear t0 t1 tl tf0 tf1 r0 r1 r2 s1 s2 hrl u1 v1 HM hxy
                      obtain ⟨r0, r1, r2, s1, s2⟩ := HMa.out.rd.rd0
                      have hrl := HMa.out.rd.lt
                      go_wp2_with fail
                      go_roundw
                      case rel => exact ⟨m + 1, by go_num, hmj, by rw [HSN.out, ← erE_or, HE2.out, hyx.out]; exact HMb.out⟩
                      case measure => simp [intOf]; omega
                    | false =>
                      have hyx := Lib.hid (id_sym hxy)
                      go_wp2_with fail
                      go_quiet (fail)
                      have HMa := Lib.hid (HM.out.later (below_drewN (Below.refl wr.heap.size wr) nq))
                      clear t0 t1 tl tf0 tf1 r0 r1 r2 s1 s2 hrl u1 v1 HM hxy
                      go_wp2_with fail
                      go_roundw
                      case rel => exact ⟨m + 1, by go_num, hmj, by rw [HSN.out, ← erE_or, HE2.out, hyx.out, erE_false]; exact HMa.out⟩
                      case measure => simp [intOf]; omega
                  · have he1 : (e2 == (0 : Int)) = false := by simp [hez]
                    have HEZ := Lib.hid hez
                    clear hez u1 v1
                    go_wp2_with fail
                    go_quiet (fail)
                    have HMa := Lib.hid (HM.out.later (below_drewN (Below.refl wr.heap.size wr) nq))
                    clear t0 t1 tl tf0 tf1 r0 r1 r2 s1 s2 hrl HM
                    go_wp2_with fail
                    go_roundw
                    case rel => exact ⟨m + 1, by go_num, hmj, by rw [HSN.out, ← erE_or, HE2.out]; unfold erE; rw [if_neg (fun h => HEZ.out h.1)]; exact HMa.out⟩
                    case measure => simp [intOf]; omega
                · have hme : m = j := by omega
                  have hmi : ¬ (m : Int) < (j : Int) := by omega
                  have HM : Hid (TzS W W.heap.size (W.heap.size + 1) s n F A c q (erE 0 (twB (F.take (j + 1)))) wr) := Lib.hid (by rw [← dupB_end HX.out, ← hme]; rw [← hme] at hZ; exact hZ)
                  clear hme hZ
                  go_wp2_with fail
                  go_roundw
                  case rel => exact ⟨j + 1, by go_num, hjl, HM.out⟩
                  case measure => simp [intOf]; omega
            · have hji : ¬ (j : Int) < (F.length : Int) := by omega
              have hZe : TzS W W.heap.size (W.heap.size + 1) s n F A c q (paT s) wr := by
                have h1 := HJ.out
                rw [List.take_of_length_le (by omega), HFI.out.1] at h1
                exact h1
              clear t0 t1 tl tf0 tf1 HJ
              by_cases hpz : paT s = 0
              · obtain ⟨tn, tF⟩ := HFI.out.2 hpz
                have HPZ := Lib.hid hpz
                have HTN := Lib.hid tn
                have HTF := Lib.hid tF
                rw [hpz] at hZe
                have HZ2 := Lib.hid hZe
                obtain ⟨r0, r1, r2, s1, s2⟩ := hZe.rd.rd0
                obtain ⟨t0, t1, tl, tf0, tf1⟩ := hZe.cells
                clear hpz tn tF hZe
                go_wp2_with fail
                go_ret2
                exact .inr ⟨HPZ.out, W.heap.size + 1, A, c, rfl, by rw [HTN.out, HTF.out]; exact HZ2.out.rt, HZ2.out.bel⟩
              · obtain ⟨ez, hez⟩ : ∃ ez, paT s = ez := ⟨_, rfl⟩
                rw [hez] at hpz hZe
                have HPZ := Lib.hid hez
                have HNZ := Lib.hid hpz
                have hn1 : (ez != (0 : Int)) = true := by simpa using hpz
                have HZ2 := Lib.hid hZe
                obtain ⟨r0, r1, r2, s1, s2⟩ := hZe.rd.rd0
                obtain ⟨t0, t1, tl, tf0, tf1⟩ := hZe.cells
                clear hpz hez hZe
                go_wp2_with fail
                go_region_with (fail)
                all_goals
                  go_wp2_with fail
                  go_ret2
                  refine .inl ⟨by rw [HPZ.out]; exact HNZ.out, by rw [HPZ.out]; rfl, HZ2.out.bel.drew⟩
        · have hq1 : (q != (s.size : Int)) = true := by simpa using hqs2
          rw [hq1, show erE 0 true = 3 from rfl] at hfi
          have HFI := Lib.hid hfi
          have HZ := Lib.hid (HS.out.err 3)
          clear HS hfi hqs2
          go_wp2_with fail
          go_loopw [9] (fun i wi => ∃ (j : Nat), i = .int .i64 j ∧ j ≤ F.length ∧ TzS W W.heap.size (W.heap.size + 1) s n F A c q (erE 3 (twB (F.take j))) wi) (fun i _ => F.length - (intOf i).toNat)
          case atStart => exact ⟨0, rfl, Nat.zero_le _, by rw [List.take_zero, twB_nil, erE_false]; exact HZ.out⟩
          case round =>
            obtain ⟨j, rfl, hj, hZ⟩ := hrel
            have HJ := Lib.hid hZ
            clear HZ hZ
            obtain ⟨t0, t1, tl, tf0, tf1⟩ := HJ.out.cells
            by_cases hjl : j < F.length
            · obtain ⟨x, hx⟩ : ∃ x, F[j]? = some x := ⟨_, List.getElem?_eq_getElem hjl⟩
              have HX := Lib.hid hx
              have hji : (j : Int) < (F.length : Int) := by omega
              clear hx
              go_wp2_with fail
              go_loopw [10] (fun m wi => ∃ (m' : Nat), m = .int .i64 m' ∧ m' ≤ j ∧ TzS W W.heap.size (W.heap.size + 1) s n F A c q (erE 3 (dupB F x j m')) wi) (fun m _ => j - (intOf m).toNat)
              case atStart => exact ⟨0, rfl, Nat.zero_le _, by rw [dupB_zero]; exact HJ.out⟩
              case round =>
                obtain ⟨m, rfl, hm, hZ⟩ := hrel
                clear HJ t0 t1 tl tf0 tf1
                by_cases hmj : m < j
                · obtain ⟨y, hy⟩ : ∃ y, F[m]? = some y := ⟨_, List.getElem?_eq_getElem (by omega)⟩
                  have HSN := Lib.hid (dupB_snoc (x := x) (i := j) hy)
                  obtain ⟨e2, he2⟩ : ∃ e2, erE 3 (dupB F x j m) = e2 := ⟨_, rfl⟩
                  have HE2 := Lib.hid he2
                  rw [he2] at hZ
                  have HM := Lib.hid hZ
                  obtain ⟨g, rfl, _, u0, u1, u2, hgl, hc⟩ := rt_cell rfl hZ.rt.row hy
                  obtain ⟨g', hgg, _, v0, v1, v2, _, _⟩ := rt_cell rfl hZ.rt.row HX.out
                  injection hgg with hgg
                  injection hgg with hgg
                  subst hgg
                  obtain ⟨t0, t1, tl, tf0, tf1⟩ := hZ.cells
                  obtain ⟨r0, r1, r2, s1, s2⟩ := hZ.rd.rd0
                  have hrl := hZ.rd.lt
                  have hmi : (m : Int) < (j : Int) := by omega
                  have hm0 : (0 : Int) ≤ (m : Int) := by omega
                  have hm1 : (m : Int) < (F.length : Int) := by omega
                  have hj0 : (0 : Int) ≤ (j : Int) := by omega
                  clear hy he2 hZ v0 v2 u0 u2
                  by_cases hez : e2 = 0
                  · subst hez
                    cases hxy : (x.id == y.id) with
                    | true =>
                      have hyx := Lib.hid (id_sym hxy)
                      go_wp2_with fail
                      go_quiet (fail)
                      have HMa := Lib.hid (HM.out.later (below_drewN (Below.refl wr.heap.size wr) nq))
                      generalize wr.drewN nq = wa at *
                      have HMb := Lib.hid (HMa.out.err 3)
                      clear t0 t1 tl tf0 tf1 r0 r1 r2 s1 s2 hrl u1 v1 HM hxy
                      obtain ⟨r0, r1, r2, s1, s2⟩ := HMa.out.rd.rd0
                      have hrl := HMa.out.rd.lt
                      go_wp2_with fail
                      go_roundw
                      case rel => exact ⟨m + 1, by go_num, hmj, by rw [HSN.out, ← erE_or, HE2.out, hyx.out]; exact HMb.out⟩
                      case measure => simp [intOf]; omega
                    | false =>
                      have hyx := Lib.hid (id_sym hxy)
                      go_wp2_with fail
                      go_quiet (fail)
                      have HMa := Lib.hid (HM.out.later (below_drewN (Below.refl wr.heap.size wr) nq))
                      clear t0 t1 tl tf0 tf1 r0 r1 r2 s1 s2 hrl u1 v1 HM hxy
                      go_wp2_with fail
                      go_roundw
                      case rel => exact ⟨m + 1, by go_num, hmj, by rw [HSN.out, ← erE_or, HE2.out, hyx.out, erE_false]; exact HMa.out⟩
                      case measure => simp [intOf]; omega
                  · have he1 : (e2 == (0 : Int)) = false := by simp [hez]
                    have HEZ := Lib.hid hez
                    clear hez u1 v1
                    go_wp2_with fail
                    go_quiet (fail)
                    have HMa := Lib.hid (HM.out.later (below_drewN (Below.refl wr.heap.size wr) nq))
                    clear t0 t1 tl tf0 tf1 r0 r1 r2 s1 s2 hrl HM
                    go_wp2_with fail
                    go_roundw
                    case rel => exact ⟨m + 1, by go_num, hmj, by rw [HSN.out, ← erE_or, HE2.out]; unfold erE; rw [if_neg (fun h => HEZ.out h.1)]; exact HMa.out⟩
                    case measure => simp [intOf]; omega
                · have hme : m = j := by omega
                  have hmi : ¬ (m : Int) < (j : Int) := by omega
                  have HM : Hid (TzS W W.heap.size (W.heap.size + 1) s n F A c q (erE 3 (twB (F.take (j + 1)))) wr) := Lib.hid (by rw [← dupB_end HX.out, ← hme]; rw [← hme] at hZ; exact hZ)
                  clear hme hZ
                  go_wp2_with fail
                  go_roundw
                  case rel => exact ⟨j + 1, by go_num, hjl, HM.out⟩
                  case measure => simp [intOf]; omega
            · have hji : ¬ (j : Int) < (F.length : Int) := by omega
              have hZe : TzS W W.heap.size (W.heap.size + 1) s n F A c q (paT s) wr := by
                have h1 := HJ.out
                rw [List.take_of_length_le (by omega), HFI.out.1] at h1
                exact h1
              clear t0 t1 tl tf0 tf1 HJ
              by_cases hpz : paT s = 0
              · obtain ⟨tn, tF⟩ := HFI.out.2 hpz
                have HPZ := Lib.hid hpz
                have HTN := Lib.hid tn
                have HTF := Lib.hid tF
                rw [hpz] at hZe
                have HZ2 := Lib.hid hZe
                obtain ⟨r0, r1, r2, s1, s2⟩ := hZe.rd.rd0
                obtain ⟨t0, t1, tl, tf0, tf1⟩ := hZe.cells
                clear hpz tn tF hZe
                go_wp2_with fail
                go_ret2
                exact .inr ⟨HPZ.out, W.heap.size + 1, A, c, rfl, by rw [HTN.out, HTF.out]; exact HZ2.out.rt, HZ2.out.bel⟩
              · obtain ⟨ez, hez⟩ : ∃ ez, paT s = ez := ⟨_, rfl⟩
                rw [hez] at hpz hZe
                have HPZ := Lib.hid hez
                have HNZ := Lib.hid hpz
                have hn1 : (ez != (0 : Int)) = true := by simpa using hpz
                have HZ2 := Lib.hid hZe
                obtain ⟨r0, r1, r2, s1, s2⟩ := hZe.rd.rd0
                obtain ⟨t0, t1, tl, tf0, tf1⟩ := hZe.cells
                clear hpz hez hZe
                go_wp2_with fail
                go_region_with (fail)
                all_goals
                  go_wp2_with fail
                  go_ret2
                  refine .inl ⟨by rw [HPZ.out]; exact HNZ.out, by rw [HPZ.out]; rfl, HZ2.out.bel.drew⟩
      all_goals
        have hfi := dt_fin HD.out (.inl he)
        rw [show erE e (q != (s.size : Int)) = e from by unfold erE; rw [if_neg (fun h => he h.1)]] at hfi
        have HFI := Lib.hid hfi
        have HZ := HS
        have he1 : (e == (0 : Int)) = false := by simp [he]
        clear HS hfi he
        go_wp2_with fail
        go_loopw [9] (fun i wi => ∃ (j : Nat), i = .int .i64 j ∧ j ≤ F.length ∧ TzS W W.heap.size (W.heap.size + 1) s n F A c q (erE e (twB (F.take j))) wi) (fun i _ => F.length - (intOf i).toNat)
        case atStart => exact ⟨0, rfl, Nat.zero_le _, by rw [List.take_zero, twB_nil, erE_false]; exact HZ.out⟩
        case round =>
          obtain ⟨j, rfl, hj, hZ⟩ := hrel
          have HJ := Lib.hid hZ
          clear HZ hZ
          obtain ⟨t0, t1, tl, tf0, tf1⟩ := HJ.out.cells
          by_cases hjl : j < F.length
          · obtain ⟨x, hx⟩ : ∃ x, F[j]? = some x := ⟨_, List.getElem?_eq_getElem hjl⟩
            have HX := Lib.hid hx
            have hji : (j : Int) < (F.length : Int) := by omega
            clear hx
            go_wp2_with fail
            go_loopw [10] (fun m wi => ∃ (m' : Nat), m = .int .i64 m' ∧ m' ≤ j ∧ TzS W W.heap.size (W.heap.size + 1) s n F A c q (erE e (dupB F x j m')) wi) (fun m _ => j - (intOf m).toNat)
            case atStart => exact ⟨0, rfl, Nat.zero_le _, by rw [dupB_zero]; exact HJ.out⟩
            case round =>
              obtain ⟨m, rfl, hm, hZ⟩ := hrel
              clear HJ t0 t1 tl tf0 tf1
              by_cases hmj : m < j
              · obtain ⟨y, hy⟩ : ∃ y, F[m]? = some y := ⟨_, List.getElem?_eq_getElem (by omega)⟩
                have HSN := Lib.hid (dupB_snoc (x := x) (i := j) hy)
                obtain ⟨e2, he2⟩ : ∃ e2, erE e (dupB F x j m) = e2 := ⟨_, rfl⟩
                have HE2 := Lib.hid he2
                rw [he2] at hZ
                have HM := Lib.hid hZ
                obtain ⟨g, rfl, _, u0, u1, u2, hgl, hc⟩ := rt_cell rfl hZ.rt.row hy
                obtain ⟨g', hgg, _, v0, v1, v2, _, _⟩ := rt_cell rfl hZ.rt.row HX.out
                injection hgg with hgg
                injection hgg with hgg
                subst hgg
                obtain ⟨t0, t1, tl, tf0, tf1⟩ := hZ.cells
                obtain ⟨r0, r1, r2, s1, s2⟩ := hZ.rd.rd0
                have hrl := hZ.rd.lt
                have hmi : (m : Int) < (j : Int) := by omega
                have hm0 : (0 : Int) ≤ (m : Int) := by omega
                have hm1 : (m : Int) < (F.length : Int) := by omega
                have hj0 : (0 : Int) ≤ (j : Int) := by omega
                clear hy he2 hZ v0 v2 u0 u2
                by_cases hez : e2 = 0
                · subst hez
                  cases hxy : (x.id == y.id) with
                  | true =>
                    have hyx := Lib.hid (id_sym hxy)
                    go_wp2_with fail
                    go_quiet (fail)
                    have HMa := Lib.hid (HM.out.later (below_drewN (Below.refl wr.heap.size wr) nq))
                    generalize wr.drewN nq = wa at *
                    have HMb := Lib.hid (HMa.out.err 3)
                    clear t0 t1 tl tf0 tf1 r0 r1 r2 s1 s2 hrl u1 v1 HM hxy
                    obtain ⟨r0, r1, r2, s1, s2⟩ := HMa.out.rd.rd0
                    have hrl := HMa.out.rd.lt
                    go_wp2_with fail
                    go_roundw
                    case rel => exact ⟨m + 1, by go_num, hmj, by rw [HSN.out, ← erE_or, HE2.out, hyx.out]; exact HMb.out⟩
                    case measure => simp [intOf]; omega
                  | false =>
                    have hyx := Lib.hid (id_sym hxy)
                    go_wp2_with fail
                    go_quiet (fail)
                    have HMa := Lib.hid (HM.out.later (below_drewN (Below.refl wr.heap.size wr) nq))
                    clear t0 t1 tl tf0 tf1 r0 r1 r2 s1 s2 hrl u1 v1 HM hxy
                    go_wp2_with fail
                    go_roundw
                    case rel => exact ⟨m + 1, by go_num, hmj, by rw [HSN.out, ← erE_or, HE2.out, hyx.out, erE_false]; exact HMa.out⟩
                    case measure => simp [intOf]; omega
                · have he1 : (e2 == (0 : Int)) = false := by simp [hez]
                  have HEZ := Lib.hid hez
                  clear hez u1 v1
                  go_wp2_with fail
                  go_quiet (fail)
                  have HMa := Lib.hid (HM.out.later (below_drewN (Below.refl wr.heap.size wr) nq))
                  clear t0 t1 tl tf0 tf1 r0 r1 r2 s1 s2 hrl HM
                  go_wp2_with fail
                  go_roundw
                  case rel => exact ⟨m + 1, by go_num, hmj, by rw [HSN.out, ← erE_or, HE2.out]; unfold erE; rw [if_neg (fun h => HEZ.out h.1)]; exact HMa.out⟩
                  case measure => simp [intOf]; omega
              · have hme : m = j := by omega
                have hmi : ¬ (m : Int) < (j : Int) := by omega
                have HM : Hid (TzS W W.heap.size (W.heap.size + 1) s n F A c q (erE e (twB (F.take (j + 1)))) wr) := Lib.hid (by rw [← dupB_end HX.out, ← hme]; rw [← hme] at hZ; exact hZ)
                clear hme hZ
                go_wp2_with fail
                go_roundw
                case rel => exact ⟨j + 1, by go_num, hjl, HM.out⟩
                case measure => simp [intOf]; omega
          · have hji : ¬ (j : Int) < (F.length : Int) := by omega
            have hZe : TzS W W.heap.size (W.heap.size + 1) s n F A c q (paT s) wr := by
              have h1 := HJ.out
              rw [List.take_of_length_le (by omega), HFI.out.1] at h1
              exact h1
            clear t0 t1 tl tf0 tf1 HJ
            by_cases hpz : paT s = 0
            · obtain ⟨tn, tF⟩ := HFI.out.2 hpz
              have HPZ := Lib.hid hpz
              have HTN := Lib.hid tn
              have HTF := Lib.hid tF
              rw [hpz] at hZe
              have HZ2 := Lib.hid hZe
              obtain ⟨r0, r1, r2, s1, s2⟩ := hZe.rd.rd0
              obtain ⟨t0, t1, tl, tf0, tf1⟩ := hZe.cells
              clear hpz tn tF hZe
              go_wp2_with fail
              go_ret2
              exact .inr ⟨HPZ.out, W.heap.size + 1, A, c, rfl, by rw [HTN.out, HTF.out]; exact HZ2.out.rt, HZ2.out.bel⟩
            · obtain ⟨ez, hez⟩ : ∃ ez, paT s = ez := ⟨_, rfl⟩
              rw [hez] at hpz hZe
              have HPZ := Lib.hid hez
              have HNZ := Lib.hid hpz
              have hn1 : (ez != (0 : Int)) = true := by simpa using hpz
              have HZ2 := Lib.hid hZe
              obtain ⟨r0, r1, r2, s1, s2⟩ := hZe.rd.rd0
              obtain ⟨t0, t1, tl, tf0, tf1⟩ := hZe.cells
              clear hpz hez hZe
              go_wp2_with fail
              go_region_with (fail)
              all_goals
                go_wp2_with fail
                go_ret2
                refine .inl ⟨by rw [HPZ.out]; exact HNZ.out, by rw [HPZ.out]; rfl, HZ2.out.bel.drew⟩
end Go.Proofs.Ytnpfakjgocnkbaa
