/- Merged texts. What each proves is told at its head. -/
import Derived.Test.YtjnphajkoopkgaaGreatDoorQW
/- segment: what was synced is there behind a crash: the law's walk. No condition. -/
namespace Go.Proofs.YtjnphajkoopkgaaGreatDoor
open Go.RowKit
set_option linter.unusedVariables false
theorem So.offB {W w w' : World} {p q : Nat} {n : ByteArray} {base : Int} {N : List BR} {safe : Nat} {room : Int} {T : Nat → Prop} (h : So W p q n base N safe room w) (ho : Off T w w') (hT : ∀ k, T k → TyB [44] w k ∧ W.heap.size ≤ k) : So W p q n base N safe room w' := by
  obtain ⟨a, s, h1, h2⟩ := h
  exact ⟨a, s, ⟨at_off h1.dk ho (fun k hk _ hd => hd.apart (hT k hk).1 (by decide)) (fun k hk => (hT k hk).2), h1.sg.off ho (fun k hk ht => (sg_kind h1.sg hk).apart (hT k ht).1 (by decide)) (fun k ht hr => hr.apart (hT k ht).1 (by decide)), h1.hp, h1.ok⟩, h2⟩
theorem BtsR.appO {w : World} {base : Nat} {B : Option Addr} {d : Nat} {M : List BX} {y : BX} (h : BtsR w base (.slice B M.length d) M) (hb : base ≤ w.heap.size) (hy : RowR w base (.slice y.2.2.1 y.2.1.length y.2.2.2) y.2.1) (hl : M.length ≤ 1000000) :
    ∃ (A' : Option Addr) (c' : Nat) (w' : World), (Builtin.append_ #[51, 51] 51 #[.slice B M.length d, .slice (some ⟨w.heap.size, 0, none⟩) 1 1]).run Tryz.prog (w.alloc (.cells (bnC y.1 (.slice y.2.2.1 y.2.1.length y.2.2.2)) 44)) = .ok (.slice A' (M.length + 1) c') w' ∧
      BtsR w' base (.slice A' (M.length + 1) c') (M ++ [y]) ∧ Off (fun k => TyB [44] w k ∧ base ≤ k) w w' := by
  have hA : Below w.heap.size w (w.alloc (.cells (bnC y.1 (.slice y.2.2.1 y.2.1.length y.2.2.2)) 44)) := (Below.refl _ _).alloc (Nat.le_refl _) _
  have h' := h.later hA
  have hy' := hy.later hA
  have hbn := Box.new w 44 (bnC y.1 (.slice y.2.2.1 y.2.1.length y.2.2.2))
  have hsz : base ≤ (w.alloc (.cells (bnC y.1 (.slice y.2.2.1 y.2.1.length y.2.2.2)) 44)).heap.size := Nat.le_trans hb hA.size
  generalize hw9 : (w.alloc (.cells (bnC y.1 (.slice y.2.2.1 y.2.1.length y.2.2.2)) 44)) = w9 at *
  obtain ⟨A', c', w', r1, o1, g1⟩ := catZ (t := 51) (sz := 6) (u := .slice (some ⟨w.heap.size, 0, none⟩) 1 1) (m := 1) (ys := (bnC y.1 (.slice y.2.2.1 y.2.1.length y.2.2.2)).toList) (by decide) Tryz.underlying51 batInfo rfl (by decide) h'.row (.inr ⟨_, _, rfl, rfl, news_at hbn⟩) (bat_one y.1 y.2.2.1 y.2.1.length y.2.2.2) hsz (by omega)
  exact ⟨A', c', w', r1, h'.grow hy' o1 g1, (Off.of_below _ hA).grown g1 (fun k hk _ => ⟨.row h.row hk (by decide), (h.row.lt k hk).1⟩)⟩
theorem readS_full {from_ most : Int} : ∀ {L : List BR} {n : Nat} {has : Bool}, (∀ q ∈ L, from_ < endQ q) → ((n + lenN L : Nat) : Int) ≤ most → readS from_ most n has L = L
  | [], _, _, _, _ => rfl
  | x :: L, n, has, h, hl => by
    have hx := h x List.mem_cons_self
    have hll : lenN (x :: L) = (encT x).size + lenN L := rfl
    rw [hll] at hl
    unfold readS
    rw [if_neg (by omega), if_neg (by rintro ⟨_, h2⟩; omega), readS_full (fun q hq => h q (List.mem_cons_of_mem _ hq)) (by omega)]
theorem row_cap {w : World} {base n size : Nat} {t : TypeId} {A : Option Addr} {m cap : Nat} {xs : List Value} (h : w.ownsRow base t size (.slice A m cap) n xs) : m ≤ cap := by
  rcases h.2 with ⟨hv, _⟩ | ⟨g, c2, cur, hv, _, _, h4, _⟩
  · injection hv with e1 e2 e3
    rw [e2, e3]
    exact Nat.le_refl _
  · injection hv with e1 e2 e3
    rw [e2, e3]
    exact h4
theorem len_take (N : List BR) (i : Nat) : lenN (N.take i) ≤ lenN N := by
  have h := congrArg lenN (List.take_append_drop i N)
  rw [lenN_app] at h
  omega
theorem bsin_take {w : World} {A : Option Addr} {M : List BX} (h : BsIn w A M) (i : Nat) : BsIn w A (M.take i) := fun hp => by
  rw [List.length_take] at hp
  obtain ⟨b, off, e, hl, hc⟩ := h (by omega)
  refine ⟨b, off, e, hl, fun j x hx => hc j x ?_⟩
  rw [List.getElem?_take] at hx
  split at hx
  · exact hx
  · cases hx
theorem good_end {q : BR} (h : goodR q) : 0 < endQ q := by
  obtain ⟨⟨h1, _⟩, h2, _⟩ := bat_num h
  unfold endQ
  omega
/-- A segment under way: all that was appended, so many of it synced. -/
structure SfS (W : World) (q : Nat) (k : Nat) (N : List BR) (j : Nat) (M : List BX) (B : Option Addr) (d : Nat) (w : World) : Prop where
  so : So W W.heap.size q na 0 N (lenN (N.take j)) 100000 w
  all : BtsR w W.heap.size (.slice B M.length d) M
  told : M.map BX.told = N
  len : N.length ≤ k
  big : (lenN N : Int) ≤ 100000
  syn : j ≤ N.length
theorem SfS.later {W w w' : World} {q k j d : Nat} {N : List BR} {M : List BX} {B : Option Addr} (h : SfS W q k N j M B d w) (hb : Below w.heap.size w w') : SfS W q k N j M B d w' := ⟨h.so.later hb, h.all.later hb, h.told, h.len, h.big, h.syn⟩
theorem SfS.mlen {W w : World} {q k j d : Nat} {N : List BR} {M : List BX} {B : Option Addr} (h : SfS W q k N j M B d w) : M.length = N.length := by rw [← h.told, List.length_map]
set_option maxHeartbeats 16000000 in
set_option maxRecDepth 100000 in
theorem segmentSafe_walk (L : List BX) (A : Option Addr) (c : Nat) (safe keep : Int) (W : World) (hA : BsIn W A L) (hr : ∀ x ∈ L, x.2.1.length ≤ 140737488351232) {pp : Prop} (hsf : pp) (hkp : (Lit.int .i64 keep).wf = true) (hT : Tab W) :
    Calls Tryz.prog 5 #[.slice A L.length c, .int .i64 safe, .int .i64 keep] W (Good W (.bool true)) := by
  have HA := Lib.hid hA
  have HR := Lib.hid hr
  have HT := Lib.hid hT
  have hkr : -9223372036854775808 ≤ keep ∧ keep ≤ 9223372036854775807 := by
    have h1 : IntKind.i64.min = -9223372036854775808 := by decide
    have h2 : IntKind.i64.max = 9223372036854775807 := by decide
    simp only [Lit.wf, h1, h2, Bool.and_eq_true, decide_eq_true_eq] at hkp
    exact hkp
  have HKR := Lib.hid hkr
  have cl := live10_c W hT
  by_cases h8 : 8 < L.length
  · have h8' : (8 : Int) < (L.length : Int) := by omega
    clear hA hr hsf hT hkp hkr
    go_enter Tryz.func5, Tryz.ntmps5
    go_wp2_with fail
    (with_reducible refine cl.mono ?_)
    rintro e w1 ⟨rfl, hb⟩
    go_wp2_with fail
    go_ret
    exact ⟨rfl, hb⟩
  · have hl8 : L.length ≤ 8 := by omega
    have h8' : ¬ (8 : Int) < (L.length : Int) := by omega
    have hop : OpOk na 0 50 := ⟨⟨by decide, by decide⟩, ⟨by decide, by decide⟩, by decide, by decide⟩
    have c1 := lv_new2 W
    have c2 := fun w hd => so_open0 W w W.heap.size na 0 50 100000 hd hT hop
    unfold Dk.dp at c1
    unfold Dk.dp sp na at c2
    clear hA hr hsf hT hkp hkr cl hop
    go_enter Tryz.func5, Tryz.ntmps5
    go_wp2_with fail
    (with_reducible refine c1.mono ?_)
    rintro e w1 ⟨rfl, hd⟩
    have c3 := c2 w1 hd
    clear c1 c2 hd
    go_wp2_with fail
    (with_reducible refine c3.mono ?_)
    rintro e w2 ⟨q, rfl, hs⟩
    have HS : Hid (SfS W q 0 [] 0 [] none 0 w2) := Lib.hid ⟨hs, BtsR.nil _ _, rfl, Nat.le_refl _, by decide, Nat.le_refl _⟩
    clear c3 hs
    go_wp2_with fail
    go_loopw [11, 12, 13] (fun l sy i wr => ∃ (k : Nat) (N : List BR) (j : Nat) (M : List BX) (B : Option Addr) (d : Nat), l = .slice B M.length d ∧ sy = .int .i64 j ∧ i = .int .i64 k ∧ k ≤ L.length ∧ SfS W q k N j M B d wr) (fun _ _ i _ => L.length - (intOf i).toNat)
    case atStart => exact ⟨0, [], 0, [], none, 0, rfl, rfl, rfl, Nat.zero_le _, HS.out⟩
    case round =>
      obtain ⟨k, N, j, M, B, d, rfl, rfl, rfl, hk, hN⟩ := hrel
      have HN := Lib.hid hN
      clear hN HS
      by_cases hkl : k < L.length
      · have hki : (k : Int) < (L.length : Int) := by omega
        have hk0 : (0 : Int) ≤ (k : Int) := by omega
        obtain ⟨x, hx⟩ : ∃ x, L[k]? = some x := ⟨_, List.getElem?_eq_getElem hkl⟩
        have hbw := HN.out.so.bel
        obtain ⟨b, off, rfl, hbl, hca⟩ := (HA.out.below hbw) (by omega)
        obtain ⟨⟨z0, z1, z2, z3, z4, z5⟩, hrs⟩ := hca k x hx
        have hxl := HR.out x (List.mem_of_getElem? hx)
        have cs := rsmall_c x.1 x.2.1 x.2.2.1 x.2.2.2 wr hrs hxl
        obtain ⟨⟨bs, span, prod, epoch, seq⟩, R, RA, rc⟩ := x
        have HX := Lib.hid (And.intro hrs (And.intro hbl (And.intro z0 (And.intro z1 (And.intro z2 (And.intro z3 (And.intro z4 z5)))))))
        unfold bnC at cs
        dsimp only at *
        clear hca hx hrs hxl
        generalize hk6 : k * 6 = k6 at *
        go_wp2_with fail
        (with_reducible refine cs.mono ?_)
        rintro e w3 ⟨res, rfl, hsm, hb3⟩
        have HN3 := Lib.hid (HN.out.later hb3)
        cases res with
        | false =>
          have cl := live10_c w3 (HT.out.below HN3.out.so.bel)
          clear cs hsm hb3
          go_wp2_with fail
          (with_reducible refine cl.mono ?_)
          rintro e w4 ⟨rfl, hb⟩
          have HN4 := Lib.hid (HN3.out.later hb)
          clear cl hb
          go_wp2_with fail
          go_ret
          exact ⟨rfl, HN4.out.so.bel⟩
        | true =>
          have hsm' := hsm rfl
          have hrs3 := HX.out.1.below hb3
          obtain ⟨_, _, y0, y1, y2, y3, y4, y5⟩ := HX.out
          have hc := fun i => hb3.cell (p := ⟨b, i, none⟩) hbl
          have x0 := (hc _).trans y0
          have x1 := (hc _).trans y1
          have x2 := (hc _).trans y2
          have x3 := (hc _).trans y3
          have x4 := (hc _).trans y4
          have x5 := (hc _).trans y5
          have hbl3 : b < w3.heap.size := Nat.lt_of_lt_of_le hbl hb3.size
          have cc := rcopy5_c ⟨bs, span, prod, epoch, seq⟩ R RA rc w3 hrs3 (by have := hsm'.1; omega) (fun y hy => by have := (hsm'.2 y hy).1; omega)
          have HSM := Lib.hid hsm'
          unfold CopiedB bnC at cc
          dsimp only at *
          clear cs hsm hsm' hb3 hrs3 y0 y1 y2 y3 y4 y5 hc z0 z1 z2 z3 z4 z5 hbl
          go_wp2_with fail
          (with_reducible refine cc.mono ?_)
          rintro e w4 ⟨P, PA, pc, hm, rfl, hrow, hb4⟩
          have hN4 := HN3.out.later hb4
          have hal : Below w4.heap.size w4 (w4.alloc (.cells #[.int .i64 bs, .int .i64 span, .int .i64 prod, .int .i64 epoch, .int .i64 seq, .slice PA P.length pc] 44)) := (Below.refl _ _).alloc (Nat.le_refl _) _
          have hbx := Box.new w4 44 #[.int .i64 bs, .int .i64 span, .int .i64 prod, .int .i64 epoch, .int .i64 seq, .slice PA P.length pc]
          have hNa := hN4.later hal
          have HROW := Lib.hid (And.intro (hrow.base HN3.out.so.bel.size) (And.intro hm (And.intro hal hbx)))
          have HGW := Lib.hid hN4.so.bel.size
          have HNA := Lib.hid hNa
          have HN4 := Lib.hid hN4
          have ce := so_end W _ W.heap.size q na 0 N _ 100000 hNa.so (by have := hNa.len; omega)
          generalize hE : endN 0 N = E at *
          unfold sp at ce
          clear cc hrow hm hb4 hal hbx hNa x0 x1 x2 x3 x4 x5 hbl3
          go_wp2_with fail
          (with_reducible refine ce.mono ?_)
          rintro e w5 ⟨rfl, hb5⟩
          have hN5 := HNA.out.later hb5
          have hbx5 := HROW.out.2.2.2.later hb5
          have hbx6 := hbx5.set 0 (.int .i64 E)
          have hoff := Off.one w5 ⟨w4.heap.size, 0, none⟩ (.int .i64 E)
          have hs6 := hN5.so.batch hbx5 HGW.out hoff
          have hrow6 := rowR_batch ((HROW.out.1.later HROW.out.2.2.1).later hb5) hbx5 hoff
          have hall6 : BtsR (w5.setCell ⟨w4.heap.size, 0, none⟩ (.int .i64 E)) W.heap.size (.slice B M.length d) M := by
            have h1 : Below w4.heap.size w4 (w5.setCell ⟨w4.heap.size, 0, none⟩ (.int .i64 E)) := (HROW.out.2.2.1.trans (hb5.mono HROW.out.2.2.1.size)).trans (hoff.below (Nat.le_trans HROW.out.2.2.1.size hb5.size) (fun k hk => Nat.le_of_eq hk.symm))
            exact (HN4.out.all).later h1
          have z0 := (hbx5.cell 0).trans (show _ = some (.int .i64 bs) from rfl)
          have f0 := hbx5.frozen 0
          have zl := hbx5.lt
          have y0 := (hbx6.cell 0).trans (show _ = some (.int .i64 E) from rfl)
          have y1 := (hbx6.cell 1).trans (show _ = some (.int .i64 span) from rfl)
          have y2 := (hbx6.cell 2).trans (show _ = some (.int .i64 prod) from rfl)
          have y3 := (hbx6.cell 3).trans (show _ = some (.int .i64 epoch) from rfl)
          have y4 := (hbx6.cell 4).trans (show _ = some (.int .i64 seq) from rfl)
          have y5 := (hbx6.cell 5).trans (show _ = some (.slice PA P.length pc) from rfl)
          have hPs : ∀ y ∈ P, smallR y.1 := fun y hy => by
            have h1 : y.1 ∈ R.map (·.1) := HROW.out.2.1 ▸ List.mem_map.2 ⟨y, hy, rfl⟩
            obtain ⟨r, hr, e⟩ := List.mem_map.1 h1
            rw [← e]
            exact HSM.out.2 r hr
          have hPl : P.length ≤ 50 := by
            have h1 := congrArg List.length HROW.out.2.1
            rw [List.length_map, List.length_map] at h1
            have := HSM.out.1
            omega
          have ca := so_append_any W _ W.heap.size q na 0 N _ 100000 hs6 HT.out (by have := hN5.len; omega) ⟨E, span, prod, epoch, seq⟩ P PA pc (hrow6.rsinS hPs) (by omega)
          have H6 := Lib.hid (And.intro hall6 (And.intro hrow6 (And.intro hbx6 (And.intro hPs hPl))))
          unfold sp bnC at ca
          dsimp only at ca
          clear ce hb5 hN5 hbx5 hbx6 hoff hs6 hrow6 hPs hPl hall6 hE
          go_wp2_with fail
          (with_reducible refine ca.mono ?_)
          rintro e w7 ⟨⟨v, rfl, hv⟩, ho7⟩
          have hall7 := btsR_seg H6.out.1 ho7
          rcases hv with ⟨rfl, hbb, ⟨hle, hroom⟩, hs7⟩ | ⟨hv0, hs7⟩
          · have hbx7 := box_seg H6.out.2.2.1 ho7 (by decide) (by decide)
            have hrow7 := rowR_seg H6.out.2.1 ho7
            obtain ⟨B', d', w8, r8, hall8, ho8⟩ := hall7.appO (y := (⟨E, span, prod, epoch, seq⟩, P, PA, pc)) hs7.bel.size hrow7 (by have := HN.out.mlen; have := HN.out.len; omega)
            have hs8 := hs7.offB ho8 (fun k hk => hk)
            have htk : (N ++ [((⟨E, span, prod, epoch, seq⟩, P.map (·.1)) : BR)]).take j = N.take j := List.take_append_of_le_length HN.out.syn
            have hF : SfS W q (k + 1) (N ++ [((⟨E, span, prod, epoch, seq⟩, P.map (·.1)) : BR)]) j (M ++ [(⟨E, span, prod, epoch, seq⟩, P, PA, pc)]) B' d' w8 := by
              refine ⟨by rw [htk]; exact hs8, by rw [List.length_append]; exact hall8, by rw [List.map_append, HN.out.told]; rfl, by rw [List.length_append]; exact Nat.succ_le_succ HN.out.len, hroom, by rw [List.length_append]; exact Nat.le_succ_of_le HN.out.syn⟩
            have HF := Lib.hid hF
            have x0 := (hbx7.cell 0).trans (show _ = some (.int .i64 E) from rfl)
            have x1 := (hbx7.cell 1).trans (show _ = some (.int .i64 span) from rfl)
            have x2 := (hbx7.cell 2).trans (show _ = some (.int .i64 prod) from rfl)
            have x3 := (hbx7.cell 3).trans (show _ = some (.int .i64 epoch) from rfl)
            have x4 := (hbx7.cell 4).trans (show _ = some (.int .i64 seq) from rfl)
            have x5 := (hbx7.cell 5).trans (show _ = some (.slice PA P.length pc) from rfl)
            have xl := hbx7.lt
            unfold bnC at r8
            dsimp only at r8
            clear ca ho7 hbb hle hroom hs7 hs8 hall7 hall8 ho8 hF htk hbx7 hrow7 z0 f0 zl y0 y1 y2 y3 y4 y5
            have HML : Hid ((M ++ [((⟨E, span, prod, epoch, seq⟩, P, PA, pc) : BX)]).length = M.length + 1) := Lib.hid (by rw [List.length_append]; rfl)
            generalize N ++ [((⟨E, span, prod, epoch, seq⟩, P.map (·.1)) : BR)] = N2 at *
            generalize M ++ [((⟨E, span, prod, epoch, seq⟩, P, PA, pc) : BX)] = M2 at *
            by_cases hsy : (k : Int) = safe
            · subst hsy
              have cy := so_sync_x W w8 W.heap.size q na 0 N2 _ 100000 HF.out.so
              unfold sp at cy
              go_wp2_with (at_builtin; refine wpList_append_run rfl (.tmp 62) (.tmp 64) 51 rfl _ _ _ rfl rfl r8 ?_)
              (with_reducible refine cy.mono ?_)
              rintro e w9 ⟨rfl, hs9, ho9⟩
              have hall9 := btsR_seg HF.out.all ho9
              have hF9 : SfS W q (k + 1) N2 N2.length M2 B' d' w9 := ⟨by rw [List.take_length]; exact hs9, hall9, HF.out.told, HF.out.len, HF.out.big, Nat.le_refl _⟩
              have HF9 := Lib.hid hF9
              clear cy hs9 ho9 hall9 hF9 r8 x0 x1 x2 x3 x4 x5 xl
              go_wp2_with fail
              exact ⟨⟨k + 1, N2, N2.length, M2, B', d', by rw [HML.out], by have h1 := HF9.out.mlen; rw [HML.out] at h1; go_num, by go_num, hkl, HF9.out⟩, by simp [intOf]; omega⟩
            · go_wp2_with (at_builtin; refine wpList_append_run rfl (.tmp 62) (.tmp 64) 51 rfl _ _ _ rfl rfl r8 ?_)
              exact ⟨⟨k + 1, N2, j, M2, B', d', by rw [HML.out], rfl, by go_num, hkl, HF.out⟩, by simp [intOf]; omega⟩
          · have hv0' : (v == 0) = false := by simpa using hv0
            have hF : SfS W q (k + 1) N j M B d w7 := ⟨hs7, hall7, HN.out.told, Nat.le_succ_of_le HN.out.len, HN.out.big, HN.out.syn⟩
            have HF := Lib.hid hF
            clear ca ho7 hs7 hall7 hF z0 f0 zl y0 y1 y2 y3 y4 y5 hv0
            by_cases hsy : (k : Int) = safe
            · subst hsy
              have cy := so_sync_x W w7 W.heap.size q na 0 N _ 100000 HF.out.so
              unfold sp at cy
              go_wp2_with fail
              (with_reducible refine cy.mono ?_)
              rintro e w9 ⟨rfl, hs9, ho9⟩
              have hall9 := btsR_seg HF.out.all ho9
              have hF9 : SfS W q (k + 1) N N.length M B d w9 := ⟨by rw [List.take_length]; exact hs9, hall9, HF.out.told, HF.out.len, HF.out.big, Nat.le_refl _⟩
              have HF9 := Lib.hid hF9
              clear cy hs9 ho9 hall9 hF9
              go_wp2_with fail
              exact ⟨⟨k + 1, N, N.length, M, B, d, rfl, by have h1 := HF9.out.mlen; rw [h1], by go_num, hkl, HF9.out⟩, by simp [intOf]; omega⟩
            · go_wp2_with fail
              exact ⟨⟨k + 1, N, j, M, B, d, rfl, rfl, by go_num, hkl, HF.out⟩, by simp [intOf]; omega⟩
      · have hki : ¬ (k : Int) < (L.length : Int) := by omega
        have hlN : N.length ≤ 8 := by have := HN.out.len; omega
        have HLN := Lib.hid hlN
        clear hlN
        have hB := Box.new wr 3 #[.int .i64 keep]
        have hb : Below wr.heap.size wr (wr.alloc (.cells #[.int .i64 keep] 3)) := (Below.refl _ _).alloc (Nat.le_refl _) _
        have HA1 := Lib.hid (HN.out.later hb)
        have c1 := so_crash_x W _ W.heap.size na (bytesN N) (lenN (N.take j)) 100000 HA1.out.so.dn (by rw [lenN_bytes]; exact len_take N j) wr.heap.size keep hB HKR.out
        unfold Dk.dp at c1
        clear hB hb
        go_wp2_with fail
        (with_reducible refine c1.mono ?_)
        rintro e w1 ⟨⟨⟨v1, rfl⟩, m, hm1, hm2, hd⟩, ho1⟩
        rw [lenN_bytes] at hm2
        have HB1 := Lib.hid (btsR_seg HA1.out.all ho1)
        have hop : OpOk na 0 7 := ⟨⟨by decide, by decide⟩, ⟨by decide, by decide⟩, by decide, by decide⟩
        have c2 := so_open_x W w1 W.heap.size na 0 7 N m m 100000 hd hm2 HN.out.so.good HN.out.so.chain HT.out hop (by have := HN.out.big; omega) (Nat.le_refl _)
        unfold Dk.dp sp na at c2
        have HM1 := Lib.hid hm1
        clear c1 hd ho1 hop hm1 hm2
        go_wp2_with fail
        (with_reducible refine c2.mono ?_)
        rintro e w2 ⟨q2, i, rfl, hi1, hi2, hi3, hs2, ho2⟩
        have hji : j ≤ i := hi3 j HN.out.syn HM1.out
        have HS2 := Lib.hid hs2
        have HB2 := Lib.hid (btsR_seg HB1.out ho2)
        have hlt : (N.take i).length = i := by rw [List.length_take]; omega
        have c3 := so_read W w2 W.heap.size q2 na 0 (N.take i) _ 100000 hs2 (by have := HLN.out; omega) 0 1000000
        have hfull : readN 0 1000000 (N.take i) = N.take i := readS_full (fun q hq => good_end (HN.out.so.good q (List.mem_of_mem_take hq))) (by
          have h1 := len_take N i
          have := HN.out.big
          omega)
        rw [hfull] at c3
        unfold sp at c3
        clear c2 hs2 ho2 hi2 hi3 hfull
        go_wp2_with fail
        (with_reducible refine c3.mono ?_)
        rintro e w3 ⟨X, XA, xc, hX, rfl, hbt, hb3⟩
        have hXl : X.length = i := by
          have h1 := congrArg List.length hX
          rw [List.length_map, hlt] at h1
          exact h1
        have hMl := HN.out.mlen
        have HB3 := Lib.hid (HB2.out.later hb3)
        have HS3 := Lib.hid (HS2.out.later hb3)
        have hgr : ∀ x ∈ N, goodR x := HN.out.so.good
        obtain ⟨ok1, sm1⟩ := good_told_in HN.out.told hgr
        obtain ⟨ok2, sm2⟩ := good_told_in hX (fun x hx => hgr x (List.mem_of_mem_take hx))
        have hbM := bsin_take (HB3.out.bsinOk HN.out.told ok1) i
        have htl : X.map BX.told = (M.take i).map BX.told := by rw [hX, ← HN.out.told, List.map_take]
        have hMt : (M.take i).length = i := by rw [List.length_take]; omega
        have c4 := rsameAll5_c X (M.take i) XA B xc d w3 (hbt.bsinOk hX ok2) hbM htl (by have := HLN.out; omega) sm2
        rw [hMt, hXl] at c4
        rw [hXl]
        have hij : ¬ (i : Int) < (j : Int) := by omega
        have him : ¬ (M.length : Int) < (i : Int) := by omega
        have hcap : M.length ≤ d := row_cap HB3.out.row
        have hd : (i : Int) ≤ (d : Int) := by omega
        have hi0 : (0 : Int) ≤ (i : Int) := by omega
        clear c3 hX hbt hb3 hgr ok1 sm1 ok2 sm2 hbM htl hMt hXl hMl hlt hji hi1
        go_wp2_with fail
        (with_reducible refine c4.mono ?_)
        rintro e w4 ⟨rfl, hb4⟩
        have HS4 := Lib.hid (HS3.out.later hb4)
        have c5 := live10_c w4 (HT.out.below HS4.out.bel)
        clear c4 hb4
        go_wp2_with fail
        (with_reducible refine c5.mono ?_)
        rintro e w5 ⟨rfl, hb5⟩
        have HS5 := Lib.hid (HS4.out.later hb5)
        clear c5 hb5
        go_wp2_with fail
        go_ret
        exact ⟨rfl, HS5.out.bel⟩
end Go.Proofs.YtjnphajkoopkgaaGreatDoor
