/- index: the law IndexAhead walks to true. No condition. -/
import Derived.Test.YtljgiabaekddlaaIxLv
namespace Go.Proofs.Ytljgiabaekddlaa
open Go.RowKit
set_option linter.unusedVariables false
/-- Items, one behind the other, added. -/
def Ix.adds (x : Ix) : List En → Ix
  | [] => x
  | e :: l => (x.add e.1 e.2.1 e.2.2).adds l
theorem Ix.adds_snoc (x : Ix) : ∀ (l : List En) (e : En), x.adds (l ++ [e]) = (x.adds l).add e.1 e.2.1 e.2.2
  | [], e => rfl
  | y :: l, e => Ix.adds_snoc _ l e
theorem Ix.add_every (x : Ix) (o p t : Int) : (x.add o p t).every = x.every := by unfold Ix.add; split <;> rfl
/-- What was taken in: the last place up to an offset; the first place with a time. -/
structure AhI (x : Ix) (off tm la fi : Int) : Prop where
  wf : x.Wf
  lasts : la = -1 ∨ (0 ≤ la ∧ la ≤ x.lp ∧ aheadG x.L (qF off) ≤ la)
  no : x.L = [] → la = -1 ∧ fi = -1 ∧ x.lt = 0
  firsts : (fi = -1 ∧ (x.L ≠ [] → x.lt < tm)) ∨ (0 ≤ fi ∧ fi ≤ x.lp ∧ aheadG x.L (qS tm) ≤ fi ∧ tm ≤ x.lt)
theorem aheadG_snoc {L : List En} {Q : En → Bool} (e : En) (h : (L ++ [e]).Pairwise (fun e f => Q e = true → Q f = true)) : aheadG (L ++ [e]) Q = if Q e = true then aheadG L Q else e.2.1 := by
  have h1 : L.Pairwise (fun e f => Q e = true → Q f = true) := (List.pairwise_append.1 h).1
  rw [← refG_ahead h, ← refG_ahead h1, refG_snoc]
theorem aheadG_le {x : Ix} (h : x.Wf) (hp : 0 ≤ x.lp) (Q : En → Bool) : aheadG x.L Q ≤ x.lp := by
  unfold aheadG
  cases hl : (x.L.takeWhile fun e => !Q e).getLast? with
  | none => exact hp
  | some e =>
    have hm := List.mem_of_getLast? hl
    exact (h.2 e (List.takeWhile_subset _ hm)).2.1
theorem ixo_nn {n : Int} (h : ixo n = true) : 0 ≤ n := (ixo_of h).1
theorem Ix.ok_parts {x : Ix} {o p t : Int} (h : x.ok o p t = true) : ixo o = true ∧ ixo p = true ∧ ixo t = true := by
  unfold Ix.ok at h
  simp only [Bool.and_eq_true] at h
  exact ⟨h.1, h.2.1, h.2.2.1⟩
theorem AhI.start (every off tm : Int) : AhI ⟨every, [], 0, 0, 0⟩ off tm (-1) (-1) :=
  ⟨Ix.wf_new every, .inl rfl, (fun _ => ⟨rfl, rfl, rfl⟩), .inl ⟨rfl, fun h => absurd rfl h⟩⟩
theorem Ix.add_bad {x : Ix} {o p t : Int} (h : ¬ x.addE o p t = 0) : x.add o p t = x := by
  unfold Ix.addE at h
  unfold Ix.add
  split at h
  · exact absurd rfl h
  · rename_i hk
    rw [if_neg hk]
theorem Ix.addE_ok {x : Ix} {o p t : Int} (h : x.addE o p t = 0) : x.ok o p t = true := by
  unfold Ix.addE at h
  split at h
  · rename_i hk; exact hk
  · exact absurd h (by decide)
theorem Ix.add_ne {x : Ix} {o p t : Int} (h : x.ok o p t = true) : (x.add o p t).L ≠ [] := by
  unfold Ix.add
  rw [if_pos h]
  simp only
  split
  · simp
  · rename_i hd
    intro e
    apply hd
    unfold dueB
    rw [e]
    rfl
theorem AhI.step {x : Ix} {off tm la fi : Int} (h : AhI x off tm la fi) {o p t : Int} (hk : x.ok o p t = true) :
    AhI (x.add o p t) off tm (if o ≤ off then p else la) (if fi < 0 ∧ tm ≤ t then p else fi) := by
  obtain ⟨k1, k2, k3⟩ := Ix.ok_parts hk
  have hwf := Ix.wf_add h.wf o p t
  have hne := Ix.add_ne hk
  have hp0 := ixo_nn k2
  have ho0 := ixo_nn k1
  have hadd : x.add o p t = ⟨x.every, if dueB x p = true then x.L ++ [(o, p, max x.lt t)] else x.L, o, p, max x.lt t⟩ := by unfold Ix.add; rw [if_pos hk]
  have hlp : (x.add o p t).lp = p := by rw [hadd]
  have hlo : (x.add o p t).lo = o := by rw [hadd]
  have hlt : (x.add o p t).lt = max x.lt t := by rw [hadd]
  have hle := fun Q => aheadG_le hwf (by rw [hlp]; exact hp0) Q
  have hup : x.L ≠ [] → x.lo < o ∧ x.lp < p := Ix.ok_rises hk
  -- what is found later does not stand later, where the new entry is beyond
  have hfound : ∀ Q : En → Bool, (∀ M : List En, Srt M → M.Pairwise (fun e f => Q e = true → Q f = true)) → Q (o, p, max x.lt t) = true → aheadG (x.add o p t).L Q = aheadG x.L Q := fun Q hQ hq => by
    rw [hadd]
    simp only
    by_cases hd : dueB x p = true
    · have hs : Srt (x.L ++ [(o, p, max x.lt t)]) := by
        have := hwf.1
        rw [hadd] at this
        simp only [if_pos hd] at this
        exact this
      rw [if_pos hd, aheadG_snoc _ (hQ _ hs), if_pos hq]
    · rw [if_neg hd]
  refine ⟨hwf, ?_, fun e => absurd e hne, ?_⟩
  · by_cases c : o ≤ off
    · rw [if_pos c]
      exact .inr ⟨hp0, by rw [hlp]; exact Int.le_refl _, by have := hle (qF off); rw [hlp] at this; exact this⟩
    · rw [if_neg c]
      rcases h.lasts with e | ⟨a, b, d⟩
      · exact .inl e
      · have hxne : x.L ≠ [] := fun e => by have := (h.no e).1; omega
        refine .inr ⟨a, by rw [hlp]; have := hup hxne; omega, ?_⟩
        rw [hfound (qF off) (fun M hM => qF_pair hM off) (by unfold qF; rw [decide_eq_true_iff]; omega)]
        exact d
  · by_cases c : fi < 0 ∧ tm ≤ t
    · rw [if_pos c]
      refine .inr ⟨hp0, by rw [hlp]; exact Int.le_refl _, ?_, by rw [hlt]; omega⟩
      have := hle (qS tm)
      rw [hlp] at this
      exact this
    · rw [if_neg c]
      rcases h.firsts with ⟨e, f⟩ | ⟨a, b, d, g⟩
      · refine .inl ⟨e, fun _ => ?_⟩
        rw [hlt]
        have ht : t < tm := by omega
        have ht0 := ixo_nn k3
        by_cases hx : x.L = []
        · have := (h.no hx).2.2
          omega
        · have := f hx
          omega
      · have hxne : x.L ≠ [] := fun e => by have := (h.no e).2.1; omega
        refine .inr ⟨a, by rw [hlp]; have := hup hxne; omega, ?_, by rw [hlt]; omega⟩
        rw [hfound (qS tm) (fun M hM => qS_pair hM tm) (by unfold qS; rw [decide_eq_true_iff]; show tm ≤ max x.lt t; omega)]
        exact d
theorem its_at {W w : World} {A : Option Addr} {L : List En} (h : ItsIn W A L) (hb : Below W.heap.size W w) {k : Nat} {e : En} (hk : L[k]? = some e) :
    ∃ b off, A = some ⟨b, off, none⟩ ∧ b < W.heap.size ∧ w.cell? ⟨b, off + k * 3, none⟩ = some (.int .i64 e.1) ∧ w.cell? ⟨b, off + k * 3 + 1, none⟩ = some (.int .i64 e.2.1) ∧ w.cell? ⟨b, off + k * 3 + 2, none⟩ = some (.int .i64 e.2.2) := by
  obtain ⟨b, off, hA, hl, hc⟩ := h (by have := (List.getElem?_eq_some_iff.1 hk).1; omega)
  obtain ⟨h1, h2, h3⟩ := hc k e hk
  exact ⟨b, off, hA, hl, (hb.cell (p := ⟨b, off + k * 3, none⟩) hl).trans h1, (hb.cell (p := ⟨b, off + k * 3 + 1, none⟩) hl).trans h2, (hb.cell (p := ⟨b, off + k * 3 + 2, none⟩) hl).trans h3⟩
theorem below_cells {W w : World} (hb : Below W.heap.size W w) {b i : Nat} {v : Value} (hl : b < W.heap.size) (h : W.cell? ⟨b, i, none⟩ = some v) : w.cell? ⟨b, i, none⟩ = some v := (hb.cell (p := ⟨b, i, none⟩) hl).trans h
set_option maxHeartbeats 16000000 in
set_option maxRecDepth 100000 in
theorem indexAhead_walk (ev off tm : Int) (L : List En) (A : Option Addr) (c : Nat) (W : World) (hL : ItsIn W A L) (hlen : L.length ≤ 140737488351232) :
    Calls Try.prog 5 #[.agg #[.int .i64 ev, .slice A L.length c, .int .i64 off, .int .i64 tm]] W (Yes W) := by
  have hbx := Box.new W 43 #[.int .i64 ev, .slice A L.length c, .int .i64 off, .int .i64 tm]
  have hb0 := (Below.refl W.heap.size W).alloc (Nat.le_refl _) (.cells #[.int .i64 ev, .slice A L.length c, .int .i64 off, .int .i64 tm] 43)
  have y0 := (hbx.cell 0).trans (show _ = some (Value.int .i64 ev) from rfl)
  have y1 := (hbx.cell 1).trans (show _ = some (Value.slice A L.length c) from rfl)
  have y2 := (hbx.cell 2).trans (show _ = some (Value.int .i64 off) from rfl)
  have y3 := (hbx.cell 3).trans (show _ = some (Value.int .i64 tm) from rfl)
  have HB0 := Lib.hid hb0
  have HL := Lib.hid (And.intro hL hlen)
  have hnew := fun w => new_c ev w
  unfold GotNew at hnew
  clear hbx hb0 hL hlen
  go_enter Try.func5, Try.ntmps5
  go_wp2_with fail
  go_quiet (fail)
  have HB1 : Hid (Below W.heap.size W ((W.alloc (.cells #[.int .i64 ev, .slice A L.length c, .int .i64 off, .int .i64 tm] 43)).drewN nq)) := Lib.hid (HB0.out.trans ⟨rfl, rfl, rfl, Nat.le_refl _, fun _ _ => rfl⟩)
  clear y0 y1 y2 y3 HB0
  generalize (W.alloc (.cells #[.int .i64 ev, .slice A L.length c, .int .i64 off, .int .i64 tm] 43)).drewN nq = W1 at *
  by_cases hev : 1 ≤ ev ∧ ev ≤ 1000000
  · go_wp2_with fail
    (with_reducible refine (hnew _).mono ?_)
    rintro e w1 ⟨_, hn⟩
    obtain ⟨rfl, hx, hb⟩ := hn hev
    have H1 : Hid (Tw W (XI W1.heap.size ⟨ev, [], 0, 0, 0⟩) (fun _ _ => True) w1) := Lib.hid (Tw.start hx HB1.out.size (HB1.out.trans (hb.mono HB1.out.size)))
    clear hn hx hb hnew hev HB1
    generalize W1.heap.size = bI at *
    go_wp2_with fail
    go_loopw [9, 10, 11] (fun lv fv i wr => ∃ (k : Nat) (x : Ix) (la fi : Int), i = .int .i64 k ∧ k ≤ L.length ∧ k ≤ 80 ∧ lv = .int .i64 la ∧ fv = .int .i64 fi ∧ x.L.length ≤ k ∧ AhI x off tm la fi ∧ Tw W (XI bI x) (fun _ _ => True) wr) (fun _ _ i _ => L.length - (intOf i).toNat)
    case atStart => exact ⟨0, ⟨ev, [], 0, 0, 0⟩, -1, -1, rfl, Nat.zero_le _, by decide, rfl, rfl, Nat.le_refl _, AhI.start ev off tm, H1.out⟩
    case round =>
      obtain ⟨k, x, la, fi, rfl, hk, hk8, rfl, rfl, hxl, hA, hT⟩ := hrel
      clear H1
      have HT := Lib.hid hT
      have HA := Lib.hid hA
      clear hT hA
      by_cases hkl : k < L.length ∧ k < 80
      · obtain ⟨hk1, hk2⟩ := hkl
        have he := atE_some hk1
        generalize atE L k = e at *
        obtain ⟨o, p, t⟩ := e
        obtain ⟨b, of, rfl, hbl, q0, q1, q2⟩ := its_at HL.out.1 HT.out.bel he
        simp only at q0 q1 q2
        have xk : ∀ w x', Tw W (XI bI x') (fun _ _ => True) w → w.cell? ⟨b, of + k * 3, none⟩ = some (.int .i64 o) ∧ w.cell? ⟨b, of + k * 3 + 1, none⟩ = some (.int .i64 p) ∧ w.cell? ⟨b, of + k * 3 + 2, none⟩ = some (.int .i64 t) := fun w x' h => by
          obtain ⟨b', of', e1, hl', r0, r1, r2⟩ := its_at HL.out.1 h.bel he
          injection e1 with e1
          injection e1 with e1 e2
          subst e1 e2
          exact ⟨r0, r1, r2⟩
        have XK := Lib.hid xk
        have ca := (HT.out.later (xi_rep bI x) tt_rep (Below.refl _ _).drew).xadd tt_rep o p t (by omega)
        have hki : (k : Int) < (L.length : Int) := by omega
        have hk0 : (0 : Int) ≤ (k : Int) := by omega
        have hk80 : (k : Int) < 80 := by omega
        have HK := Lib.hid (And.intro hk1 hk2)
        have HXL : Hid ((x.add o p t).L.length ≤ k + 1) := Lib.hid (by have := x.add_len o p t; omega)
        by_cases hok : x.addE o p t = 0
        · have hst := HA.out.step (Ix.addE_ok hok)
          rw [hok] at ca
          have HST := Lib.hid hst
          clear he hst hok hk1 hk2
          generalize x.add o p t = x2 at *
          by_cases c1 : o ≤ off
          · by_cases c2 : fi < 0
            · by_cases c3 : tm ≤ t
              · have HN : Hid (AhI x2 off tm p p) := Lib.hid (by
                  have := HST.out
                  rw [if_pos c1, if_pos ⟨c2, c3⟩] at this
                  exact this)
                clear HST
                go_wp2_with fail
                go_region_held3 (fun w => w.cell? ⟨b, of + k * 3, none⟩ = some (.int .i64 o) ∧ w.cell? ⟨b, of + k * 3 + 1, none⟩ = some (.int .i64 p) ∧ w.cell? ⟨b, of + k * 3 + 2, none⟩ = some (.int .i64 t))
                  (first | exact ⟨q0, q1, q2⟩ | exact XK.out _ _ (by assumption))
                  (first | ((with_reducible refine ca.mono ?_); rintro e w1 ⟨rfl, ht⟩))
                have HT2 := Lib.hid ht
                obtain ⟨r0, r1, r2⟩ := XK.out _ _ ht
                clear ht q0 q1 q2
                go_wp2_with fail
                go_roundw
                case rel => exact ⟨k + 1, x2, p, p, by go_num, HK.out.1, HK.out.2, rfl, rfl, HXL.out, HN.out, HT2.out⟩
                case measure => simp [intOf]; omega
              · have HN : Hid (AhI x2 off tm p fi) := Lib.hid (by
                  have := HST.out
                  rw [if_pos c1, if_neg (fun h => c3 h.2)] at this
                  exact this)
                clear HST
                go_wp2_with fail
                go_region_held3 (fun w => w.cell? ⟨b, of + k * 3, none⟩ = some (.int .i64 o) ∧ w.cell? ⟨b, of + k * 3 + 1, none⟩ = some (.int .i64 p) ∧ w.cell? ⟨b, of + k * 3 + 2, none⟩ = some (.int .i64 t))
                  (first | exact ⟨q0, q1, q2⟩ | exact XK.out _ _ (by assumption))
                  (first | ((with_reducible refine ca.mono ?_); rintro e w1 ⟨rfl, ht⟩))
                have HT2 := Lib.hid ht
                obtain ⟨r0, r1, r2⟩ := XK.out _ _ ht
                clear ht q0 q1 q2
                go_wp2_with fail
                go_roundw
                case rel => exact ⟨k + 1, x2, p, fi, by go_num, HK.out.1, HK.out.2, rfl, rfl, HXL.out, HN.out, HT2.out⟩
                case measure => simp [intOf]; omega
            · have HN : Hid (AhI x2 off tm p fi) := Lib.hid (by
                have := HST.out
                rw [if_pos c1, if_neg (fun h => c2 h.1)] at this
                exact this)
              clear HST
              go_wp2_with fail
              go_region_held3 (fun w => w.cell? ⟨b, of + k * 3, none⟩ = some (.int .i64 o) ∧ w.cell? ⟨b, of + k * 3 + 1, none⟩ = some (.int .i64 p) ∧ w.cell? ⟨b, of + k * 3 + 2, none⟩ = some (.int .i64 t))
                (first | exact ⟨q0, q1, q2⟩ | exact XK.out _ _ (by assumption))
                (first | ((with_reducible refine ca.mono ?_); rintro e w1 ⟨rfl, ht⟩))
              have HT2 := Lib.hid ht
              obtain ⟨r0, r1, r2⟩ := XK.out _ _ ht
              clear ht q0 q1 q2
              go_wp2_with fail
              go_roundw
              case rel => exact ⟨k + 1, x2, p, fi, by go_num, HK.out.1, HK.out.2, rfl, rfl, HXL.out, HN.out, HT2.out⟩
              case measure => simp [intOf]; omega
          · by_cases c2 : fi < 0
            · by_cases c3 : tm ≤ t
              · have HN : Hid (AhI x2 off tm la p) := Lib.hid (by
                  have := HST.out
                  rw [if_neg c1, if_pos ⟨c2, c3⟩] at this
                  exact this)
                clear HST
                go_wp2_with fail
                go_region_held3 (fun w => w.cell? ⟨b, of + k * 3, none⟩ = some (.int .i64 o) ∧ w.cell? ⟨b, of + k * 3 + 1, none⟩ = some (.int .i64 p) ∧ w.cell? ⟨b, of + k * 3 + 2, none⟩ = some (.int .i64 t))
                  (first | exact ⟨q0, q1, q2⟩ | exact XK.out _ _ (by assumption))
                  (first | ((with_reducible refine ca.mono ?_); rintro e w1 ⟨rfl, ht⟩))
                have HT2 := Lib.hid ht
                obtain ⟨r0, r1, r2⟩ := XK.out _ _ ht
                clear ht q0 q1 q2
                go_wp2_with fail
                go_roundw
                case rel => exact ⟨k + 1, x2, la, p, by go_num, HK.out.1, HK.out.2, rfl, rfl, HXL.out, HN.out, HT2.out⟩
                case measure => simp [intOf]; omega
              · have HN : Hid (AhI x2 off tm la fi) := Lib.hid (by
                  have := HST.out
                  rw [if_neg c1, if_neg (fun h => c3 h.2)] at this
                  exact this)
                clear HST
                go_wp2_with fail
                go_region_held3 (fun w => w.cell? ⟨b, of + k * 3, none⟩ = some (.int .i64 o) ∧ w.cell? ⟨b, of + k * 3 + 1, none⟩ = some (.int .i64 p) ∧ w.cell? ⟨b, of + k * 3 + 2, none⟩ = some (.int .i64 t))
                  (first | exact ⟨q0, q1, q2⟩ | exact XK.out _ _ (by assumption))
                  (first | ((with_reducible refine ca.mono ?_); rintro e w1 ⟨rfl, ht⟩))
                have HT2 := Lib.hid ht
                obtain ⟨r0, r1, r2⟩ := XK.out _ _ ht
                clear ht q0 q1 q2
                go_wp2_with fail
                go_roundw
                case rel => exact ⟨k + 1, x2, la, fi, by go_num, HK.out.1, HK.out.2, rfl, rfl, HXL.out, HN.out, HT2.out⟩
                case measure => simp [intOf]; omega
            · have HN : Hid (AhI x2 off tm la fi) := Lib.hid (by
                have := HST.out
                rw [if_neg c1, if_neg (fun h => c2 h.1)] at this
                exact this)
              clear HST
              go_wp2_with fail
              go_region_held3 (fun w => w.cell? ⟨b, of + k * 3, none⟩ = some (.int .i64 o) ∧ w.cell? ⟨b, of + k * 3 + 1, none⟩ = some (.int .i64 p) ∧ w.cell? ⟨b, of + k * 3 + 2, none⟩ = some (.int .i64 t))
                (first | exact ⟨q0, q1, q2⟩ | exact XK.out _ _ (by assumption))
                (first | ((with_reducible refine ca.mono ?_); rintro e w1 ⟨rfl, ht⟩))
              have HT2 := Lib.hid ht
              obtain ⟨r0, r1, r2⟩ := XK.out _ _ ht
              clear ht q0 q1 q2
              go_wp2_with fail
              go_roundw
              case rel => exact ⟨k + 1, x2, la, fi, by go_num, HK.out.1, HK.out.2, rfl, rfl, HXL.out, HN.out, HT2.out⟩
              case measure => simp [intOf]; omega
        · have hE : x.addE o p t = 1 := by
            unfold Ix.addE at hok ⊢
            split at hok
            · exact absurd rfl hok
            · rename_i h; rw [if_neg h]
          have hX := Ix.add_bad hok
          rw [hE, hX] at ca
          clear he hok hE hX hk1 hk2
          go_wp2_with fail
          go_region_held3 (fun w => w.cell? ⟨b, of + k * 3, none⟩ = some (.int .i64 o) ∧ w.cell? ⟨b, of + k * 3 + 1, none⟩ = some (.int .i64 p) ∧ w.cell? ⟨b, of + k * 3 + 2, none⟩ = some (.int .i64 t))
            (first | exact ⟨q0, q1, q2⟩ | exact XK.out _ _ (by assumption))
            (first | ((with_reducible refine ca.mono ?_); rintro e w1 ⟨rfl, ht⟩))
          have HT2 := Lib.hid ht
          clear ht
          go_wp2_with fail
          go_roundw
          case rel => exact ⟨k + 1, x, la, fi, by go_num, HK.out.1, HK.out.2, rfl, rfl, Nat.le_succ_of_le hxl, HA.out, HT2.out⟩
          case measure => simp [intOf]; omega
      · have hstop : ¬ ((k : Int) < (L.length : Int)) ∨ (k : Int) < (L.length : Int) ∧ ¬ ((k : Int) < 80) := by omega
        have hx1 : x.L.length ≤ 100000 := by omega
        have cf := HT.out.xfind tt_rep off hx1 HA.out.wf
        have hlas := HA.out.lasts
        have hfis := HA.out.firsts
        have CS := Lib.hid (fun w (h : Tw W (XI bI x) (fun _ _ => True) w) => h.xseek tt_rep tm hx1 HA.out.wf)
        clear hkl hk hk8 hxl hx1
        generalize aheadG x.L (qF off) = f1 at *
        generalize aheadG x.L (qS tm) = f2 at *
        rcases hstop with hs | ⟨hs1, hs2⟩
        all_goals
          rcases hlas with rfl | ⟨l1, l2, l3⟩
          · rcases hfis with ⟨rfl, _⟩ | ⟨g1, g2, g3, g4⟩
            · go_wp2_with fail
              (with_reducible refine (live9_c _).mono ?_)
              rintro e w2 ⟨rfl, hb⟩
              have H2 := Lib.hid (HT.out.bel.trans (hb.mono HT.out.bel.size))
              clear hb
              go_wp2_with fail
              go_ret
              exact ⟨rfl, H2.out⟩
            · have g1' : ¬ fi < 0 := by omega
              clear g2 g4
              go_wp2_with fail
              (with_reducible refine (CS.out _ HT.out).mono ?_)
              rintro e w2 ⟨rfl, ht⟩
              have HT2 := Lib.hid ht
              clear ht
              go_wp2_with fail
              (with_reducible refine (live9_c _).mono ?_)
              rintro e w3 ⟨rfl, hb⟩
              have H2 := Lib.hid (HT2.out.bel.trans (hb.mono HT2.out.bel.size))
              clear hb
              go_wp2_with fail
              go_ret
              exact ⟨rfl, H2.out⟩
          · have l3' : ¬ la < f1 := by omega
            clear l2
            rcases hfis with ⟨rfl, _⟩ | ⟨g1, g2, g3, g4⟩
            · go_wp2_with fail
              (with_reducible refine cf.mono ?_)
              rintro e w2 ⟨rfl, ht⟩
              have HT2 := Lib.hid ht
              clear ht
              go_wp2_with fail
              (with_reducible refine (live9_c _).mono ?_)
              rintro e w3 ⟨rfl, hb⟩
              have H2 := Lib.hid (HT2.out.bel.trans (hb.mono HT2.out.bel.size))
              clear hb
              go_wp2_with fail
              go_ret
              exact ⟨rfl, H2.out⟩
            · have g1' : ¬ fi < 0 := by omega
              clear g2 g4
              go_wp2_with fail
              (with_reducible refine cf.mono ?_)
              rintro e w2 ⟨rfl, ht⟩
              have HT2 := Lib.hid ht
              clear ht
              go_wp2_with fail
              (with_reducible refine (CS.out _ HT2.out).mono ?_)
              rintro e w3 ⟨rfl, ht⟩
              have HT3 := Lib.hid ht
              clear ht
              go_wp2_with fail
              (with_reducible refine (live9_c _).mono ?_)
              rintro e w4 ⟨rfl, hb⟩
              have H2 := Lib.hid (HT3.out.bel.trans (hb.mono HT3.out.bel.size))
              clear hb
              go_wp2_with fail
              go_ret
              exact ⟨rfl, H2.out⟩
  · go_wp2_with fail
    (with_reducible refine (hnew _).mono ?_)
    rintro e w1 ⟨hn, _⟩
    obtain ⟨rfl, hw⟩ := hn hev
    have hw' := hw.symm
    subst hw'
    clear hn hw hnew hev
    go_wp2_with fail
    (with_reducible refine (live9_c _).mono ?_)
    rintro e w2 ⟨rfl, hb⟩
    have H2 := Lib.hid (HB1.out.trans (hb.mono HB1.out.size))
    clear hb
    go_wp2_with fail
    go_ret
    exact ⟨rfl, H2.out⟩
end Go.Proofs.Ytljgiabaekddlaa
