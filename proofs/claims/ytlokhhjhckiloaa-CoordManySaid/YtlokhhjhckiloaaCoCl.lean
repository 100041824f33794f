/- coord: New, Group, May, Leave, Commit, Committed, by contracts. No condition but that calls are not too many. -/
import Derived.Test.YtlokhhjhckiloaaCoJn
namespace Go.Proofs.Ytlokhhjhckiloaa
open Go.RowKit Go.Maps Go.ChangeMaps Go.WideMaps
set_option linter.unusedVariables false
def zG : GD := ⟨0, 0, 0, 0, [], 0, 0⟩
/-- A coordinator of the call's own, wherever it stands: how its groups are, by name. -/
def Cx (W : World) (p : Nat) (k ss rb : Int) (st : List UInt8 → Option GD) (n : Nat) (O : List Of.KE) (w : World) : Prop :=
  ∃ g o og F V D, CO W w p g o og k ss rb F F V D O ∧ (∀ s, gv F D s = st s) ∧ F.length = n
section
variable {W w w' : World} {p : Nat} {k ss rb : Int} {st : List UInt8 → Option GD} {n : Nat} {O : List Of.KE}
theorem Cx.later (h : Cx W p k ss rb st n O w) (hb : Below w.heap.size w w') : Cx W p k ss rb st n O w' := by
  obtain ⟨g, o, og, F, V, D, h, h1, h2⟩ := h
  exact ⟨g, o, og, F, V, D, h.later hb, h1, h2⟩
theorem Cx.bel (h : Cx W p k ss rb st n O w) : Below W.heap.size W w := by
  obtain ⟨g, o, og, F, V, D, h, h1, h2⟩ := h
  exact h.bel
theorem Cx.bump {j : Int} (h : Cx W p k ss rb st n O w) (hj : k ≤ j) : Cx W p j ss rb st n O w := by
  obtain ⟨g, o, og, F, V, D, h, h1, h2⟩ := h
  exact ⟨g, o, og, F, V, D, h.bump hj, h1, h2⟩
theorem Cx.eq {st' : List UInt8 → Option GD} (h : Cx W p k ss rb st n O w) (he : ∀ s, st s = st' s) : Cx W p k ss rb st' n O w := by
  obtain ⟨g, o, og, F, V, D, h, h1, h2⟩ := h
  exact ⟨g, o, og, F, V, D, h, fun s => (h1 s).trans (he s), h2⟩
set_option maxRecDepth 100000 in
theorem group_result {w : World} (g : Nat) {v0 v1 v2 v3 v4 : Value} (h : Box w g 38 #[v0, v1, v2, v3, v4]) (tmps : Array Value) (ht : (tmps[4]?).getD undef = .pointer (some ⟨g, 0, none⟩)) :
    (results Try.f11 tmps).run Try.prog w = .ok (.agg #[v0, v1, v2, v3, v4]) w := by
  have c0 := (h.cell 0).trans (show _ = some v0 from rfl)
  have c1 := (h.cell 1).trans (show _ = some v1 from rfl)
  have c2 := (h.cell 2).trans (show _ = some v2 from rfl)
  have c3 := (h.cell 3).trans (show _ = some v3 from rfl)
  have c4 := (h.cell 4).trans (show _ = some v4 from rfl)
  simp [results, Try.results11, go_sem, ht, c0, c1, c2, c3, c4]
set_option maxHeartbeats 4000000 in
set_option maxRecDepth 100000 in
/-- Group: what it tells. -/
theorem group_x (h : Cx W p k ss rb st n O w) (s : ByteArray) (hs : s.size ≤ maxLen) : Calls Try.prog 11 #[.pointer (some ⟨p, 0, none⟩), .string s] w (GotVw w ((st s.data.toList).getD zG).ph ((st s.data.toList).getD zG).gn ((st s.data.toList).getD zG).nx ((st s.data.toList).getD zG).un ((st s.data.toList).getD zG).L) := by
  obtain ⟨g, o, og, F, V, D, h0, h1, h2⟩ := h
  have hA : Below w.heap.size w (w.alloc (.cells #[.int .i64 0, .int .i64 0, .int .i64 0, .int .i64 0, .slice none 0 0] 38)) := (Below.refl _ _).alloc (Nat.le_refl _) _
  have h := h0.later hA
  have HBX := Lib.hid (Box.new w 38 #[.int .i64 0, .int .i64 0, .int .i64 0, .int .i64 0, .slice none 0 0])
  have HA := Lib.hid hA
  have hl := look_any h.is s hs false
  obtain ⟨c0, c1, c2, c3, cl⟩ := h.is.cells
  rw [if_neg (by decide)] at hl
  have hst := h1 s.data.toList
  unfold gv at hst
  have key : ∀ (G : GD), (st s.data.toList).getD zG = G → Calls Try.prog 19 #[lookV (ofN F s.data.toList)] (w.alloc (.cells #[.int .i64 0, .int .i64 0, .int .i64 0, .int .i64 0, .slice none 0 0] 38)) (GotVw (w.alloc (.cells #[.int .i64 0, .int .i64 0, .int .i64 0, .int .i64 0, .slice none 0 0] 38)) G.ph G.gn G.nx G.un G.L) := by
    intro G hG
    subst hG
    rw [← hst]
    cases hf : ofN F s.data.toList with
    | none => exact view_nil _
    | some e0 => exact view_v (h.grp e0 (ofN_mem hf).1)
  have cv := key _ rfl
  clear key hst h1 h2 h0 h hA
  generalize (st s.data.toList).getD zG = G at *
  generalize lookV (ofN F s.data.toList) = lv at *
  go_enter Try.func11, Try.ntmps11
  go_wp2_with fail
  with_reducible refine cv.mono ?_
  rintro en w2 ⟨v2, R, rfl, hr, hm, ha, hb⟩
  obtain ⟨A2, n2, rfl⟩ := own_slice hr
  have hB2 := HBX.out.later hb
  obtain ⟨⟨q0, q1, q2, q3, q4⟩, ql, qf0, qf1, qf2, qf3, qf4⟩ := vw5 hB2
  have HB2 := Lib.hid hB2
  clear hB2 cv hl c0 c1 c2 c3 cl
  go_wp2_with fail
  have o1 := (((((Off.one w2 ⟨w.heap.size, 0, none⟩ (.int .i64 G.ph)).set (p := ⟨w.heap.size, 1, none⟩) (.inl (show w.heap.size = w.heap.size from rfl)) (.int .i64 G.gn)).set (p := ⟨w.heap.size, 2, none⟩) (.inl (show w.heap.size = w.heap.size from rfl)) (.int .i64 G.nx)).set (p := ⟨w.heap.size, 3, none⟩) (.inl (show w.heap.size = w.heap.size from rfl)) (.int .i64 G.un)).set (p := ⟨w.heap.size, 4, none⟩) (.inl (show w.heap.size = w.heap.size from rfl)) (.slice A2 R.length n2))
  have hbf := ((((HB2.out.set 0 (.int .i64 G.ph)).set 1 (.int .i64 G.gn)).set 2 (.int .i64 G.nx)).set 3 (.int .i64 G.un)).set 4 (.slice A2 R.length n2)
  refine bodyPost_ret (group_result w.heap.size hbf _ rfl) rfl ?_
  have hsz : w.heap.size ≤ (w.alloc (.cells #[.int .i64 0, .int .i64 0, .int .i64 0, .int .i64 0, .slice none 0 0] 38)).heap.size := by simp
  have q : ∀ {t size n : Nat} {u : Value} {xs : List Value}, w2.ownsRow (w.alloc (.cells #[.int .i64 0, .int .i64 0, .int .i64 0, .int .i64 0, .slice none 0 0] 38)).heap.size t size u n xs → 38 ≠ t → (((((w2.setCell ⟨w.heap.size, 0, none⟩ (.int .i64 G.ph)).setCell ⟨w.heap.size, 1, none⟩ (.int .i64 G.gn)).setCell ⟨w.heap.size, 2, none⟩ (.int .i64 G.nx)).setCell ⟨w.heap.size, 3, none⟩ (.int .i64 G.un)).setCell ⟨w.heap.size, 4, none⟩ (.slice A2 R.length n2)).ownsRow w.heap.size t size u n xs := fun hq hne => own_base2 (own_off hq o1 (fun j hj e => own_ne hq HB2.out hne j hj e)) hsz
  exact ⟨_, R, rfl, q hr (by decide), fun y hy => ⟨q (hm y hy).tr (by decide), q (hm y hy).pr (by decide)⟩, ha, (HA.out.trans (hb.mono hsz)).trans (o1.below (Nat.le_trans HA.out.size hb.size) (fun j hj => by have e' : j = w.heap.size := hj; omega))⟩
/-- May: what it tells. -/
def mayCE (g : Option GD) (m gen : Int) : Int := if m = -1 ∧ gen = -1 then (if (g.getD zG).ph = 0 then 0 else 11) else match g with | some G => knowE m gen G | none => 11
set_option maxHeartbeats 4000000 in
set_option maxRecDepth 100000 in
theorem may_x (h : Cx W p k ss rb st n O w) (s : ByteArray) (hs : s.size ≤ maxLen) (m gen : Int) : Calls Try.prog 9 #[.pointer (some ⟨p, 0, none⟩), .string s, .int .i64 m, .int .i64 gen] w (Good w (.int .i64 (mayCE (st s.data.toList) m gen))) := by
  have fd0 := fieldV0
  by_cases hm : m = -1 ∧ gen = -1
  · obtain ⟨rfl, rfl⟩ := hm
    have cg := group_x h s hs
    unfold mayCE
    rw [if_pos ⟨rfl, rfl⟩]
    generalize (st s.data.toList).getD zG = G at *
    clear h
    by_cases hp : G.ph = 0
    · rw [if_pos hp]
      have hp' : (G.ph != 0) = false := by rw [hp]; rfl
      clear hp
      go_enter Try.func9, Try.ntmps9
      go_wp2_with fail
      with_reducible refine cg.mono ?_
      rintro en w2 ⟨v2, R, rfl, hr, _, _, hb⟩
      obtain ⟨A2, n2, rfl⟩ := own_slice hr
      go_wp2_with fail
      go_ret
      exact ⟨rfl, hb⟩
    · rw [if_neg hp]
      have hp' : (G.ph != 0) = true := by unfold bne; rw [beq_eq_false_iff_ne.2 hp]; rfl
      clear hp
      go_enter Try.func9, Try.ntmps9
      go_wp2_with fail
      with_reducible refine cg.mono ?_
      rintro en w2 ⟨v2, R, rfl, hr, _, _, hb⟩
      obtain ⟨A2, n2, rfl⟩ := own_slice hr
      go_wp2_with fail
      go_ret
      exact ⟨rfl, hb⟩
  · obtain ⟨g, o, og, F, V, D, h, h1, h2⟩ := h
    have hst := h1 s.data.toList
    unfold gv at hst
    have hc : (m == -1) = false ∨ (m == -1) = true ∧ (gen == -1) = false := by
      by_cases e1 : m = -1
      · refine .inr ⟨by rw [e1]; rfl, beq_eq_false_iff_ne.2 (fun e2 => hm ⟨e1, e2⟩)⟩
      · exact .inl (beq_eq_false_iff_ne.2 e1)
    unfold mayCE
    rw [if_neg hm, ← hst]
    cases hf : ofN F s.data.toList with
    | none =>
      have cf := fun w (h : CO W w p g o og k ss rb F F V D O) => cfind_none h s hs hf
      have HH := Lib.hid h
      clear h hm hst hf h1 h2
      rcases hc with e1 | ⟨e1, e2⟩
      all_goals
        go_enter Try.func9, Try.ntmps9
        go_wp2_with fail
        with_reducible refine (cf _ HH.out).mono ?_
        rintro en w2 ⟨rfl, rfl⟩
        go_wp2_with fail
        go_ret
        exact ⟨rfl, Below.refl _ _⟩
    | some e0 =>
      have cf := fun w (h : CO W w p g o og k ss rb F F V D O) => cfind_some h s hs hf
      have ck := knows_v (h.grp e0 (ofN_mem hf).1) m gen
      have HH := Lib.hid h
      clear h hm hst hf h1 h2
      show Calls _ _ _ _ (Good w (.int .i64 (knowE m gen (D e0.blk))))
      rcases hc with e1 | ⟨e1, e2⟩
      all_goals
        go_enter Try.func9, Try.ntmps9
        go_wp2_with fail
        with_reducible refine (cf _ HH.out).mono ?_
        rintro en w2 ⟨rfl, rfl⟩
        go_wp2_with fail
        with_reducible refine ck.mono ?_
        rintro en w3 ⟨rfl, hb⟩
        go_wp2_with fail
        go_ret
        exact ⟨rfl, hb⟩
theorem may_nil (s : ByteArray) (m gen : Int) (W : World) : Calls Try.prog 9 #[.pointer none, .string s, .int .i64 m, .int .i64 gen] W (fun e w' => e = .returned (.int .i64 1) ∧ w' = W) := by
  have cf := fun w => cfind_nil s w
  go_enter Try.func9, Try.ntmps9
  go_wp2_with fail
  with_reducible refine (cf _).mono ?_
  rintro en w2 ⟨rfl, rfl⟩
  go_wp2_with fail
  go_ret
  exact ⟨rfl, rfl⟩
/-- One group's turn. -/
def putSt (st : List UInt8 → Option GD) (s : List UInt8) (g : Option GD) (n : List UInt8) : Option GD := if n = s then g else st n
def leaCE (g : Option GD) (m now : Int) : Int := match g with | some G => leaveE m now G | none => 11
set_option maxHeartbeats 4000000 in
set_option maxRecDepth 100000 in
theorem leave_x (h : Cx W p k ss rb st n O w) (hk : k ≤ 999000) (s : ByteArray) (hs : s.size ≤ maxLen) (m now : Int) : Calls Try.prog 10 #[.pointer (some ⟨p, 0, none⟩), .string s, .int .i64 m, .int .i64 now] w (fun e w' => e = .returned (.int .i64 (leaCE (st s.data.toList) m now)) ∧ Cx W p (k + 1) ss rb (putSt st s.data.toList ((st s.data.toList).map (leaveD m now))) n O w') := by
  obtain ⟨g, o, og, F, V, D, h, h1, h2⟩ := h
  have hst := h1 s.data.toList
  unfold gv at hst
  cases hf : ofN F s.data.toList with
  | none =>
    have cf := cfind_none h s hs hf
    rw [hf] at hst
    have HST := Lib.hid (show none = st s.data.toList from hst)
    have HH : Hid (Cx W p (k + 1) ss rb (putSt st s.data.toList ((st s.data.toList).map (leaveD m now))) n O w) := Lib.hid ⟨g, o, og, F, V, D, h.bump (by omega), fun x => by
      unfold putSt
      split
      · rename_i hx
        rw [hx, h1, ← hst]
        rfl
      · exact h1 x, h2⟩
    clear h hf h1 h2 hst
    rw [← HST.out]
    show Calls _ _ _ _ (fun e w' => e = .returned (.int .i64 11) ∧ _)
    go_enter Try.func10, Try.ntmps10
    go_wp2_with fail
    with_reducible refine cf.mono ?_
    rintro en w2 ⟨rfl, rfl⟩
    go_wp2_with fail
    go_ret
    refine ⟨rfl, ?_⟩
    have := HH.out
    rw [← HST.out] at this
    exact this
  | some e0 =>
    have he := (ofN_mem hf).1
    have hn := (ofN_mem hf).2
    have cf := cfind_some h s hs hf
    have ck := leave_v (h.grp e0 he) hk m now
    rw [hf] at hst
    have HST := Lib.hid (show some (D e0.blk) = st s.data.toList from hst)
    have HH := Lib.hid h
    have H1 := Lib.hid h1
    have H2 := Lib.hid h2
    have HE := Lib.hid (And.intro he hn)
    clear h hf h1 h2 hst he hn
    rw [← HST.out]
    show Calls _ _ _ _ (fun e w' => e = .returned (.int .i64 (leaveE m now (D e0.blk))) ∧ _)
    go_enter Try.func10, Try.ntmps10
    go_wp2_with fail
    with_reducible refine cf.mono ?_
    rintro en w2 ⟨rfl, rfl⟩
    go_wp2_with fail
    with_reducible refine ck.mono ?_
    rintro en w3 ⟨rfl, v', b1, b2, b3⟩
    have HC := Lib.hid (HH.out.call HE.out.1 b1 b2 b3 (by omega))
    clear ck b1 b2 b3
    go_wp2_with fail
    go_ret
    refine ⟨rfl, g, o, og, F, _, _, HC.out, fun x => ?_, H2.out⟩
    rw [gv_upd HH.out HE.out.1, HE.out.2]
    unfold putSt
    split
    · rfl
    · exact H1.out x
theorem leave_nil' (s : ByteArray) (m now : Int) (W : World) : Calls Try.prog 10 #[.pointer none, .string s, .int .i64 m, .int .i64 now] W (fun e w' => e = .returned (.int .i64 1) ∧ w' = W) := by
  have cf := fun w => cfind_nil s w
  go_enter Try.func10, Try.ntmps10
  go_wp2_with fail
  with_reducible refine (cf _).mono ?_
  rintro en w2 ⟨rfl, rfl⟩
  go_wp2_with fail
  go_ret
  exact ⟨rfl, rfl⟩
/-- Join. -/
theorem join_x (h : Cx W p k ss rb st n O w) (hk : 0 ≤ k ∧ k ≤ 999000) (s : ByteArray) (hs : 1 ≤ s.size ∧ s.size ≤ 100) (hn : st s.data.toList ≠ none ∨ n < 20) (m now : Int) (T : List ByteArray) (A : Option Addr) (c : Nat) (hT : StrIn w A T) (hTl : T.length ≤ 140737488351232) (hTz : ∀ s ∈ T, s.size ≤ 281474976710656) (hTS : 0 < T.length → ∀ a, A = some a → ∀ g o og F V D, CO W w p g o og k ss rb F F V D O → ∀ e ∈ F, ¬ GrS e.blk (V e.blk) a.block) :
    Calls Try.prog 7 #[.pointer (some ⟨p, 0, none⟩), .string s, .int .i64 m, .slice A T.length c, .int .i64 now] w (fun en w' => ∃ a b d e : Int, en = .returned (.tuple #[.agg #[.int .i64 a, .int .i64 b, .int .i64 d], .int .i64 e]) ∧ e = joinE m T now ((st s.data.toList).getD (newG ss rb)) ∧
      (e ≠ 0 → a = 0 ∧ b = 0 ∧ d = 0 ∧ Cx W p (k + 2) ss rb st n O w') ∧
      (e = 0 → a = joinM m ((st s.data.toList).getD (newG ss rb)) ∧ b = (joinD m T now ((st s.data.toList).getD (newG ss rb))).gn ∧ d = leadM (joinD m T now ((st s.data.toList).getD (newG ss rb))) ∧ ∃ n', n' ≤ n + 1 ∧ Cx W p (k + 2) ss rb (putSt st s.data.toList (some (joinD m T now ((st s.data.toList).getD (newG ss rb))))) n' O w')) := by
  obtain ⟨g, o, og, F, V, D, h, h1, h2⟩ := h
  refine (cjoin_c h hk s (by omega) m now T A c hT hTl hTz (fun hp a ha => hTS hp a ha g o og F V D h)).mono ?_
  have hG : joG s F D ss rb = (st s.data.toList).getD (newG ss rb) := by unfold joG; rw [h1]
  have hE : joE s m T now F D ss rb = joinE m T now ((st s.data.toList).getD (newG ss rb)) := by
    unfold joE
    rw [if_neg (by omega), h1]
    cases hs2 : st s.data.toList with
    | some G => rfl
    | none =>
      show (if 20 ≤ F.length then (5 : Int) else _) = _
      rw [if_neg (by
        rcases hn with hn | hn
        · exact absurd hs2 hn
        · omega)]
      rfl
  rintro en w' (⟨e1, rfl, V', D', hc, hg⟩ | ⟨e1, F', V', D', rfl, hc, hg, hl⟩)
  · refine ⟨0, 0, 0, _, rfl, hE, fun _ => ⟨rfl, rfl, rfl, g, o, og, F, V', D', hc, fun x => (hg x).trans (h1 x), h2⟩, fun e => absurd e e1⟩
  · refine ⟨_, _, _, 0, rfl, by rw [← hE, e1], fun e => absurd rfl e, fun _ => ⟨by rw [hG], by rw [hG], by rw [hG], F'.length, ?_, g, o, og, F', V', D', hc, fun x => ?_, rfl⟩⟩
    · rw [hl]
      have := putC_len ⟨s.data.toList, ((ofN F' s.data.toList).map CE.blk).getD 0⟩ F
      omega
    · rw [hg x, hG]
      unfold putSt
      split
      · rfl
      · exact h1 x
end
end Go.Proofs.Ytlokhhjhckiloaa
