/- topic: the law TopicOrder walks to true: the walk. No condition. -/
import Derived.Test.YtnpfakjgocnkbaaTpOrw
namespace Go.Proofs.Ytnpfakjgocnkbaa
open Go.RowKit
set_option linter.unusedVariables false
theorem OrI.next {W w w' : World} {g : ByteArray} {L : List OT} {pa pb k q cap : Nat} {v : Value} {x : OT} (h : OrI W g L pa pb v k w) (hx : L[k]? = some x) (hno : agB x.name g (L.take k) = false) (hk : k < 20)
    (hr : w'.ownsRow W.heap.size 9 1 (.slice (some ⟨q, 0, none⟩) (k + 1) cap) (k + 1) (nmsO (L.take k) ++ [.string x.name])) (ht : ∃ ta, T2 W pa (crS ta x.name.data.toList x.parts) pb (0, []) w' ∧ Has ta (L.take k) k) : OrI W g L pa pb (.slice (some ⟨q, 0, none⟩) (k + 1) cap) (k + 1) w' := by
  obtain ⟨n1, n2⟩ := agB_no hno
  obtain ⟨ta, t1, t2⟩ := ht
  have hl : (L.take k).length ≤ k := List.length_take_le _ _
  refine ⟨?_, ⟨_, t1, ?_⟩, ?_, ?_⟩
  · rw [take_snoc' hx]
    unfold nmsO at *
    rw [List.map_append]
    exact hr
  · rw [take_snoc' hx]
    exact (t2.make x (fun y hy => n2 y hy) (by omega) (by omega)).perm_of (List.perm_append_singleton _ _).symm
  · intro y hy
    rw [take_snoc' hx] at hy
    rcases List.mem_append.1 hy with hy | hy
    · exact h.gone y hy
    · have : y = x := by simpa using hy
      rw [this]; exact n1
  · rw [take_snoc' hx, List.pairwise_append]
    refine ⟨h.dist, List.pairwise_singleton _ _, fun a ha y hy => ?_⟩
    have : y = x := by simpa using hy
    rw [this]; exact n2 a ha
theorem nmo_cell {w : World} {base c k : Nat} {L : List OT} {A : Option Addr} (hl : L.length = k) (hrow : w.ownsRow base 9 1 (.slice A k c) k (nmsO L)) {j : Nat} {y : OT} (hj : L[j]? = some y) :
    ∃ g, A = some ⟨g, 0, none⟩ ∧ w.cell? ⟨g, j, none⟩ = some (.string y.name) ∧ g < w.heap.size ∧ k ≤ c := by
  have hjl : j < k := by rw [← hl]; exact (List.getElem?_eq_some_iff.1 hj).1
  have hrow' := hrow
  rcases hrow'.2 with ⟨hv, h0⟩ | ⟨g, cap, cur, hv, hg, hh, h4, h5, h6, h7⟩
  · omega
  · injection hv with e1 e2 e3
    subst e1 e3
    refine ⟨g, rfl, ?_, lt_of_there hh, h4⟩
    rw [hrow.cellAt j (by omega)]
    unfold nmsO
    rw [List.getElem?_map, hj]
    rfl
theorem T2.new {W : World} : T2 W W.heap.size (0, []) (W.heap.size + 1) (0, []) ((W.alloc (.cells #[.int .i64 0, .map none] 56)).alloc (.cells #[.int .i64 0, .map none] 56)) := by
  have h1 := new_is W
  have h2 := new_is (W.alloc (.cells #[.int .i64 0, .map none] 56))
  rw [World.size_alloc] at h2
  have hb := (Below.refl (W.alloc (.cells #[.int .i64 0, .map none] 56)).heap.size (W.alloc (.cells #[.int .i64 0, .map none] 56))).alloc (Nat.le_refl _) (.cells #[.int .i64 0, .map none] 56)
  refine ⟨⟨fun k => k = W.heap.size, fun k => k = W.heap.size + 1, ⟨none, h1.later hb, rfl, fun k hk => by cases hk⟩, ⟨none, h2, rfl, fun k hk => by cases hk⟩, fun k e1 e2 => by omega, fun k e => ?_, fun k e => ?_⟩, TOk.new, TOk.new, ((Below.refl _ _).alloc (Nat.le_refl _) _).alloc (by simp) _⟩
  · simp; omega
  · simp; omega
theorem drop_cons {L : List OT} {j : Nat} {x : OT} (h : L[j]? = some x) : L.drop j = x :: L.drop (j + 1) := by
  rw [List.drop_eq_getElem_cons (List.getElem?_eq_some_iff.1 h).1, (List.getElem?_eq_some_iff.1 h).2]
set_option maxHeartbeats 32000000 in
set_option maxRecDepth 100000 in
theorem topicOrder_walk (A : Option Addr) (c : Nat) (L : List OT) (g : ByteArray) (W : World) (hL : OtsIn W A L) (hg : g.size ≤ 140737488351232) : Calls Try.prog 7 #[.slice A L.length c, .string g] W (Yes W) := by
  have cn := fun w => new_c w
  have HL := Lib.hid hL
  have cl := fun w => live_c w
  unfold dp at cn
  unfold Yes at cl
  obtain ⟨i0, hi, hz0, hz1, hz2⟩ := info_parts strInfo
  clear hL
  by_cases h20 : 20 < L.length
  · have h20' : (20 : Int) < (L.length : Int) := by omega
    clear h20
    go_enter Try.func7, Try.ntmps7
    go_wp2_with fail
    with_reducible refine (cl _).mono ?_
    rintro en w5 ⟨rfl, hb⟩
    have HB := Lib.hid hb
    clear hb
    go_wp2_with fail
    go_ret
    exact ⟨rfl, HB.out⟩
  · have h20' : ¬ (20 : Int) < (L.length : Int) := by omega
    have hL20 : L.length ≤ 20 := by omega
    have H0 : Hid (OrI W g L W.heap.size (W.heap.size + 1) (.slice none 0 0) 0 ((W.alloc (.cells #[.int .i64 0, .map none] 56)).alloc (.cells #[.int .i64 0, .map none] 56))) := Lib.hid ⟨World.ownsRow_nil _ _ _ _, ⟨_, T2.new, Has.new⟩, (fun x hx => by cases hx), .nil⟩
    clear h20
    go_enter Try.func7, Try.ntmps7
    go_wp2_with fail
    with_reducible refine (cn _).mono ?_
    rintro en w0 ⟨rfl, rfl⟩
    go_wp2_with fail
    with_reducible refine (cn _).mono ?_
    rintro en w0 ⟨rfl, hw0⟩
    rw [World.size_alloc]
    have H1 : Hid (OrI W g L W.heap.size (W.heap.size + 1) (.slice none 0 0) 0 w0) := Lib.hid (hw0 ▸ H0.out)
    clear H0 hw0 cn
    generalize hpa : W.heap.size = pa at *
    have HPA := Lib.hid hpa
    clear hpa
    go_wp2_with fail
    go_loopw [7, 8, 9, 10] (fun v i _ _ wr => ∃ (k : Nat) (B : Option Addr) (d : Nat), v = .slice B k d ∧ i = .int .i64 k ∧ k ≤ L.length ∧ OrI W g L pa (pa + 1) (.slice B k d) k wr) (fun _ i _ _ _ => L.length - (intOf i).toNat)
    case atStart => exact ⟨0, none, 0, rfl, rfl, Nat.zero_le _, H1.out⟩
    case round =>
      obtain ⟨k, B, d, rfl, rfl, hk, hI⟩ := hrel
      have HI := Lib.hid hI
      clear hI H1
      by_cases hkl : k < L.length
      · obtain ⟨x, hx⟩ : ∃ x, L[k]? = some x := ⟨_, List.getElem?_eq_getElem hkl⟩
        have hki : (k : Int) < (L.length : Int) := by omega
        have hk0 : (0 : Int) ≤ (k : Int) := by omega
        obtain ⟨b, off, rfl, hbl, z0, z1, z2, hxs⟩ := HL.out.at_ HI.out.bel hx
        have HX := Lib.hid hx
        have hlt : (L.take k).length = k := by rw [List.length_take]; omega
        clear hx
        go_wp2_with fail
        obtain ⟨wo, rfl⟩ : ∃ wo : World, wo = wr := ⟨_, rfl⟩
        go_loopw [9, 10] (fun r j wj => ∃ (n q : Nat), r = .bool (agB x.name g (L.take n)) ∧ j = .int .i64 n ∧ n ≤ k ∧ wj = wo.drewN q) (fun _ j _ => k - (intOf j).toNat)
        case atStart => exact ⟨0, 0, by unfold agB; simp, rfl, Nat.zero_le _, rfl⟩
        case round =>
          obtain ⟨n, q, rfl, rfl, hn, rfl⟩ := hrel
          by_cases hnk : n < k
          · obtain ⟨y, hy⟩ : ∃ y, L[n]? = some y := ⟨_, List.getElem?_eq_getElem (by omega)⟩
            obtain ⟨gr, rfl, y1, hgl, hkd⟩ := nmo_cell hlt HI.out.row (j := n) (y := y) (by rw [List.getElem?_take, if_pos hnk]; exact hy)
            have hni : (n : Int) < (k : Int) := by omega
            have hn0 : (0 : Int) ≤ (n : Int) := by omega
            have hsn := Lib.hid (agB_snoc (s := x.name) (g := g) hy)
            clear hy
            cases hag : agB x.name g (L.take n) with
            | true =>
              rw [hag] at hsn
              clear hag
              go_wp2_with fail
              go_quiet (fail)
              all_goals
                go_wp2_with fail
                go_roundw
                case rel => exact ⟨n + 1, _, by rw [hsn.out]; rfl, by go_num, hnk, by first | exact World.drewN_drewN _ _ _ | rfl⟩
                case measure => simp [intOf]; omega
            | false =>
              rw [hag, Bool.false_or] at hsn
              clear hag
              go_wp2_with fail
              go_quiet (fail)
              all_goals
                go_wp2_with fail
                go_roundw
                case rel => exact ⟨n + 1, _, by rw [hsn.out], by go_num, hnk, by first | exact World.drewN_drewN _ _ _ | rfl⟩
                case measure => simp [intOf]; omega
          · have hnk2 : n = k := by omega
            subst hnk2
            have hni : ¬ (n : Int) < (n : Int) := by omega
            have HI5 := Lib.hid (HI.out.later (below_drewN (Below.refl wo.heap.size wo) q))
            have v1 : (wo.drewN q).cell? ⟨b, off + n * 3 + 1, none⟩ = some (.string x.name) := z1
            have v2 : (wo.drewN q).cell? ⟨b, off + n * 3 + 2, none⟩ = some (.int .i64 x.parts) := z2
            have vl : b < (wo.drewN q).heap.size := hbl
            clear z0 z1 z2 hbl HI
            generalize wo.drewN q = w5 at *
            cases hag : agB x.name g (L.take n) with
            | true =>
              clear hag
              go_wp2_with fail
              with_reducible refine (cl _).mono ?_
              rintro en w6 ⟨rfl, hb⟩
              have HB := Lib.hid (HI5.out.later hb)
              clear hb
              go_wp2_with fail
              go_ret
              exact ⟨rfl, HB.out.bel⟩
            | false =>
              have HAG := Lib.hid hag
              clear hag
              have hb6 : Below w5.heap.size w5 (w5.alloc (.cells #[.string x.name] 9)) := (Below.refl _ _).alloc (Nat.le_refl _) _
              have HI6 := Lib.hid (HI5.out.later hb6)
              have hrow := HI6.out.row
              have hnews := news_at (Box.new w5 9 #[.string x.name])
              have hsz6 := HI6.out.bel.size
              go_wp2_with (at_builtin; refine wpList_append_own_at _ rfl _ _ 52 rfl W.heap.size 9 i0 (.string ⟨#[]⟩) 1 16 Try.underlying52 hi hz0 hz1 hz2 rfl (by decide) (.slice B n d) n (nmsO (L.take n)) rfl hrow ⟨w5.heap.size, 0, none⟩ 1 1 [.string x.name] rfl rfl hnews (by simp [Value.oneCell']) (by unfold maxLen; omega) (by omega) hsz6 ?_)
              intro v' w7 hown' hgrow _ _
              obtain ⟨qr, cap, rfl⟩ : ∃ qr cap, v' = .slice (some ⟨qr, 0, none⟩) (n + 1) cap := by
                rcases hown'.2 with ⟨_, h0⟩ | ⟨qr, cap, cur, hv, _⟩
                · omega
                · exact ⟨qr, cap, hv⟩
              obtain ⟨ta, t1, t2⟩ := HI6.out.tab
              have hT7 := t1.row HI6.out.row (Nat.le_refl _) hgrow
              obtain ⟨b', off', e', vl', _, v1', v2', _⟩ := HL.out.at_ hT7.bel HX.out
              cases e'
              have hS0 : w7.drew.cell? ⟨b, off + n * 3 + 1, none⟩ = some (.string x.name) ∧ w7.drew.cell? ⟨b, off + n * 3 + 2, none⟩ = some (.int .i64 x.parts) ∧ b < w7.drew.heap.size := ⟨v1', v2', vl'⟩
              have HOW := Lib.hid (own_below hown' (Below.refl w7.heap.size w7).drew)
              have HT2 := Lib.hid t2
              have hsb := Lib.hid (fun (w : World) (hb : Below W.heap.size W w) => by
                obtain ⟨b', off', e', vl', _, v1', v2', _⟩ := HL.out.at_ hb HX.out
                cases e'
                exact (⟨v1', v2', vl'⟩ : w.cell? ⟨b, off + n * 3 + 1, none⟩ = some (.string x.name) ∧ w.cell? ⟨b, off + n * 3 + 2, none⟩ = some (.int .i64 x.parts) ∧ b < w.heap.size))
              have cc := (hT7.later (Below.refl w7.heap.size w7).drew).create x.name x.parts hxs
              generalize (crR ta x.name.data.toList x.parts).1 = r1 at *
              generalize (crR ta x.name.data.toList x.parts).2 = r2 at *
              clear hown' hgrow hrow hnews hsz6 hT7 t1 t2 v1' v2' vl' hb6 vl
              go_wp2_with fail
              go_region_held3 (fun w => w.cell? ⟨b, off + n * 3 + 1, none⟩ = some (.string x.name) ∧ w.cell? ⟨b, off + n * 3 + 2, none⟩ = some (.int .i64 x.parts) ∧ b < w.heap.size) (first | exact hS0 | exact hsb.out _ t8.bel)
                (first | ((with_reducible refine cc.mono ?_); rintro en w8 ⟨rfl, t8, k8⟩))
              all_goals
                have H8 : Hid (OrI W g L pa (pa + 1) (.slice (some ⟨qr, 0, none⟩) (n + 1) cap) (n + 1) w8) := Lib.hid (HI6.out.next HX.out HAG.out (by omega) (k8.row HOW.out (by decide)) ⟨ta, t8, HT2.out⟩)
                clear t8 k8 cc
                go_wp2_with fail
                go_roundw
                case rel => exact ⟨n + 1, _, _, rfl, by go_num, hkl, H8.out⟩
                case measure => simp [intOf]; omega
      · have hke : k = L.length := by omega
        subst hke
        have hki : ¬ (L.length : Int) < (L.length : Int) := by omega
        obtain ⟨ta, t1, t2⟩ := HI.out.tab
        rw [List.take_length] at t2
        have hgone := HI.out.gone
        have hdist := HI.out.dist
        rw [List.take_length] at hgone hdist
        have HG := Lib.hid hgone
        have HD := Lib.hid hdist
        have HTA := Lib.hid t2
        have cb := t1.swap.create g 3 hg
        have hmg := made_gone g.data.toList
        generalize crS (0, []) g.data.toList 3 = tb1 at *
        generalize crR (0, []) g.data.toList 3 = r1 at *
        clear hgone hdist t2 t1 hkl HI
        go_wp2_with fail
        with_reducible refine cb.mono ?_
        rintro en w2 ⟨rfl, t2, _⟩
        have cd := t2.delete g hg
        generalize deS tb1 g.data.toList = tb2 at *
        generalize deR tb1 g.data.toList = r2 at *
        have HMG := Lib.hid hmg
        clear t2 cb hmg
        go_wp2_with fail
        with_reducible refine cd.mono ?_
        rintro en w3 ⟨rfl, t3, _⟩
        have H3 : Hid (∃ tb, T2 W (pa + 1) tb pa ta w3 ∧ Has tb (L.drop L.length) 1) := Lib.hid ⟨tb2, t3, by rw [List.drop_length]; exact HMG.out⟩
        clear t3 cd
        go_wp2_with fail
        go_loopw [11] (fun i wr => ∃ (j : Nat), i = .int .i64 ((j : Int) - 1) ∧ j ≤ L.length ∧ ∃ tb, T2 W (pa + 1) tb pa ta wr ∧ Has tb (L.drop j) (1 + (L.length - j))) (fun i _ => (intOf i + 1).toNat)
        case atStart => exact ⟨L.length, rfl, Nat.le_refl _, by rw [Nat.sub_self]; exact H3.out⟩
        case round =>
          obtain ⟨j, rfl, hj, tb, ht, hh⟩ := hrel
          have HT := Lib.hid ht
          have HH := Lib.hid hh
          clear ht hh H3
          by_cases hj0 : 0 < j
          · obtain ⟨m, rfl⟩ : ∃ m, j = m + 1 := ⟨j - 1, by omega⟩
            obtain ⟨x, hx⟩ : ∃ x, L[m]? = some x := ⟨_, List.getElem?_eq_getElem (by omega)⟩
            have hmi : (0 : Int) ≤ (m : Int) := by omega
            have hml : (m : Int) < (L.length : Int) := by omega
            have hcast : (((m + 1 : Nat) : Int) - 1) = (m : Int) := by omega
            obtain ⟨b, off, rfl, hbl, z0, z1, z2, hxs⟩ := HL.out.at_ HT.out.bel hx
            have HX := Lib.hid hx
            have hS0 : wr.drew.cell? ⟨b, off + m * 3 + 1, none⟩ = some (.string x.name) ∧ wr.drew.cell? ⟨b, off + m * 3 + 2, none⟩ = some (.int .i64 x.parts) ∧ b < wr.drew.heap.size := ⟨z1, z2, hbl⟩
            have hsb := Lib.hid (fun (w : World) (hb : Below W.heap.size W w) => by
              obtain ⟨b', off', e', vl', _, v1', v2', _⟩ := HL.out.at_ hb HX.out
              cases e'
              exact (⟨v1', v2', vl'⟩ : w.cell? ⟨b, off + m * 3 + 1, none⟩ = some (.string x.name) ∧ w.cell? ⟨b, off + m * 3 + 2, none⟩ = some (.int .i64 x.parts) ∧ b < w.heap.size))
            have cc := (HT.out.later (Below.refl wr.heap.size wr).drew).create x.name x.parts hxs
            have hnew : Hid (Has (crS tb x.name.data.toList x.parts) (L.drop m) (1 + (L.length - m))) := Lib.hid (by
              have h1 := HH.out.make x (fun y hy => by
                have hp := HD.out
                have e : L = L.take m ++ (x :: L.drop (m + 1)) := by rw [← drop_cons HX.out, List.take_append_drop]
                rw [e] at hp
                have h3 := (List.pairwise_cons.1 (List.pairwise_append.1 hp).2.1).1 y hy
                exact fun q => h3 q.symm) (by rw [List.length_drop]; omega) (by omega)
              rw [← drop_cons HX.out] at h1
              exact h1.more (by omega))
            generalize (crR tb x.name.data.toList x.parts).1 = r3 at *
            generalize (crR tb x.name.data.toList x.parts).2 = r4 at *
            generalize crS tb x.name.data.toList x.parts = tb3 at *
            rw [hcast]
            clear hx z0 z1 z2 hcast hbl
            go_wp2_with fail
            go_region_held3 (fun w => w.cell? ⟨b, off + m * 3 + 1, none⟩ = some (.string x.name) ∧ w.cell? ⟨b, off + m * 3 + 2, none⟩ = some (.int .i64 x.parts) ∧ b < w.heap.size) (first | exact hS0 | exact hsb.out _ t8.bel)
              (first | ((with_reducible refine cc.mono ?_); rintro en w8 ⟨rfl, t8, k8⟩))
            all_goals
              have H8 := Lib.hid t8
              clear t8 k8 cc
              go_wp2_with fail
              go_roundw
              case rel => exact ⟨m, rfl, by omega, tb3, H8.out, hnew.out⟩
              case measure => simp [intOf]
          · obtain rfl : j = 0 := by omega
            have hsame := HTA.out.same (show Has tb L _ from HH.out) HT.out.okb HT.out.oka
            have hlen : ta.2.length = tb.2.length := by
              have := congrArg List.length hsame
              simpa using this
            have htop := Lib.hid (topC_np hsame)
            have hm := HT.out.okb.many
            have HLEN := Lib.hid hlen
            have ca := HT.out.swap.list
            clear hsame hlen hj0
            go_wp2_with fail
            with_reducible refine ca.mono ?_
            rintro en w4 ⟨A1, c1, rfl, hr1, hb1⟩
            have H4 := Lib.hid (HT.out.later hb1)
            have HR1 := Lib.hid hr1
            have cb := H4.out.list
            clear hr1 hb1 ca
            go_wp2_with fail
            with_reducible refine cb.mono ?_
            rintro en w5 ⟨A2, c2, rfl, hr2, hb2⟩
            have H5 := Lib.hid (H4.out.later hb2)
            have hr1 := own_below HR1.out hb2
            rw [← HLEN.out] at hr2 ⊢
            have cs := sameTop_c ta.2 tb.2 ta.2.length A1 A2 c1 c2 _ _ w5 rfl HLEN.out.symm htop.out hr1 hr2 (by omega)
            clear hr1 hr2 hb2 cb
            go_wp2_with fail
            with_reducible refine cs.mono ?_
            rintro en w6 ⟨rfl, q, rfl⟩
            have H6 := Lib.hid (H5.out.later (below_drewN (Below.refl w5.heap.size w5) q))
            clear cs
            go_wp2_with fail
            with_reducible refine (cl _).mono ?_
            rintro en w7 ⟨rfl, hb⟩
            have H7 := Lib.hid (H6.out.later hb)
            clear hb
            go_wp2_with fail
            go_ret
            exact ⟨rfl, H7.out.bel⟩
end Go.Proofs.Ytnpfakjgocnkbaa
