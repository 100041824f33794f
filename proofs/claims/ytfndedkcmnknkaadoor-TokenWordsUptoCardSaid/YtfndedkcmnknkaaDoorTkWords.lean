/- token.Words by one contract. Condition: the text's length. -/
import Derived.Test.YtfndedkcmnknkaaDoorTkIter
import Derived.Test.YtfndedkcmnknkaaDoorTkFold
import Derived.Maps.AppendAt
namespace Go.Proofs.YtfndedkcmnknkaaDoor
open Go.RowKit Go.Shelf Go.Lib
set_option linter.unusedVariables false
attribute [local go_sem] Oper.semAt_some
theorem pieces_c (s : ByteArray) (w : World) : Calls Tryd.prog 17 #[.string s] w fun e w' => e = .returned (.func (.func 19) #[] #[.pointer (some ⟨w.heap.size, 0, none⟩)]) ∧ w' = w.alloc (.cells #[.string s] 9) := by
  go_enter Tryd.func17, Tryd.ntmps17
  go_wp2
  go_ret
  exact ⟨rfl, rfl⟩
/-- A text no longer than L. -/
abbrev Px (L : List UInt8) : Type := { x : List UInt8 // x.length ≤ L.length }
def vals {L : List UInt8} (l : List (Px L)) : List (List UInt8) := l.map (·.1)
theorem vals_snoc {L : List UInt8} (l : List (Px L)) (x : Px L) : vals (l ++ [x]) = vals l ++ [x.1] := by simp [vals]
theorem vals_len {L : List UInt8} (l : List (Px L)) : (vals l).length = l.length := by simp [vals]
theorem pieces_stops (L : List UInt8) (hl : L.length ≤ 140737488351232) (n : Nat) (hn : 1 ≤ n) (Bs n₀ : Nat) (w : World) (hBs : w.cell? ⟨Bs, 0, none⟩ = some (.string (bs L))) (hT : Tabs w) (hn0 : 2 ≤ n₀) :
    SeqStopsK Fence.wide n Tryd.prog 19 #[.pointer (some ⟨Bs, 0, none⟩)] (fun x : Px L => #[Value.string (bs x.1)]) (KpT n₀ Bs) (fun ys => vals ys = TK.rawp L) (fun pre => vals pre <+: TK.rawp L) (TK.rawp L).length w :=
  fun l J Jx W hW hJ hJx hY h0 => by
    refine (pieces1_in L hl n hn l Bs n₀ (fun ys W => ∃ zs : List (Px L), vals zs = ys ∧ J zs W) (fun ys W => ∃ zs : List (Px L), vals zs = ys ∧ Jx zs W) W ?_ ?_ ?_ ((hW.cell (p := ⟨Bs, 0, none⟩) (tab_lt hBs)).trans hBs) (hT.below hW) hn0
      (by have h1 := tab_lt (hT.2 0 (by omega)).1; have h2 := hW.size; simp only at h1; omega) ⟨[], rfl, h0⟩).mono ?_
    · rintro s A B row ⟨zs, hz, hj⟩ hg hr
      exact ⟨zs, hz, hJ zs A B row hj hg hr⟩
    · rintro s A B row ⟨zs, hz, hj⟩ hg hr
      exact ⟨zs, hz, hJx zs A B row hj hg hr⟩
    · rintro pre x W1 hx ⟨zs, rfl, hj⟩ hlen
      rw [vals_len] at hlen
      refine (hY zs ⟨x, hx⟩ W1 hj hlen).mono ?_
      rintro e W' (⟨he, h1, h2⟩ | ⟨he, h1⟩)
      · exact .inl ⟨he, ⟨_, vals_snoc _ _, h1⟩, h2⟩
      · exact .inr ⟨he, ⟨_, vals_snoc _ _, h1⟩⟩
    · rintro e W' ⟨he, ⟨ys, rfl, zs, hz, hj⟩ | ⟨pre, hp, zs, hz, hj⟩⟩
      · exact ⟨he, .inl ⟨zs, hz, hj⟩⟩
      · exact ⟨he, .inr ⟨zs, by show vals zs <+: _; rw [hz]; exact hp, hj⟩⟩
theorem strInfo : (Tryd.prog.info? 9).map (fun i => (i.zero, i.size, i.bytes)) = some (some (.string ⟨#[]⟩), 1, 16) := by kernel_rfl
def strC (l : List (List UInt8)) : List Value := l.map fun x => .string (bs x)
theorem oper_append {F : Fence} {n : Nat} {P : Program} (w : World) {o : Oper} {a : Act} {Q : Exit → Act → World → Prop} {K : Act → World → Prop}
    (s x : Operand) (t : TypeId) (hop : o.op = Op.call { callee := Callee.builtin Builtin.append, args := #[s, x], argTypes := #[t, t] })
    (base : Nat) (e : TypeId) (i : TypeInfo) (z : Value) (size bytes : Nat) (h1 : P.underlying t = some (.slice e)) (h2 : P.info? e = some i) (h3 : i.zero = some z) (h4 : i.size = size) (h5 : i.bytes = bytes) (h6 : z.cells.size = size) (h7 : 0 < size)
    (v : Value) (k : Nat) (xs : List Value) (hs : a.eval s = v) (hown : w.ownsRow base e size v k xs) (ad : Addr) (m c : Nat) (news : List Value) (hx : a.eval x = .slice (some ad) m c) (hn : news.length = m * size)
    (hc : ∀ j u, news[j]? = some u → w.cell? (ad.add j) = some u) (h1c : ∀ u ∈ news, u.oneCell' = true) (b1 : k + m ≤ maxLen) (b2 : (k + m) * bytes ≤ 140737488355328) (b3 : base ≤ w.heap.size)
    (hK : ∀ v' w', w'.ownsRow base e size v' (k + m) (xs ++ news) → w.grownBy w' v.ownBlock → K (a.put o.dst v') w') : o.wpIn F n P a w K Q := by
  obtain ⟨v', w', hrun, r1, r2, r3⟩ := run_append_own (P := P) w base t o.type e i z size bytes h1 h2 h3 h4 h5 h6 h7 v k xs hown ad m c news hn hc h1c b1 b2 b3
  unfold Oper.wpIn
  refine ⟨?_, ?_⟩
  · simp [Oper.about, hop, resolve, Target.leads, Sem.run_pure]
  · rw [Oper.semAt_plain F _ _ (by rw [hop]; intro c hc'; cases hc')]
    simp [execOp, hop, resolve, invoke, builtin, hs, hx, hrun, Result.andThen]
    exact hK v' w' r1 r2
/-- Behind an append to the slice in a variable's box: the row lies from n1 on, the box from n0 on, and the block Bs ahead of n1 is as it was. -/
theorem appended2 {W w1 : World} {n₀ n₁ B Bs : Nat} {t e : TypeId} {size : Nat} {v v' : Value} {k m : Nat} {xs ys : List Value} {tmp : Obj}
    (hv : Boxed W B t v) (hte : t ≠ e) (hrow : W.ownsRow n₁ e size v k xs) (hn₁ : n₁ ≤ W.heap.size) (h01 : n₀ ≤ n₁) (hB : n₀ ≤ B) (hBs : Bs < n₁) (hne : Bs ≠ B)
    (hown' : w1.ownsRow n₁ e size v' m ys) (hgrow : (W.alloc tmp).grownBy w1 v.ownBlock) :
    Boxed w1 B t v ∧ Boxed (w1.setCell ⟨B, 0, none⟩ v') B t v' ∧ (w1.setCell ⟨B, 0, none⟩ v').ownsRow n₁ e size v' m ys ∧ KeepsOthers W (w1.setCell ⟨B, 0, none⟩ v') ∧ KpT n₀ Bs W (w1.setCell ⟨B, 0, none⟩ v') := by
  have hv1 : Boxed w1 B t v := (hv.alloc tmp).kept hgrow (hv.not_row hte hrow)
  have hko : KeepsOthers W (w1.setCell ⟨B, 0, none⟩ v') := by
    refine ((KeepsOthers.alloc W tmp).trans (KeepsOthers.of_grownBy hgrow fun j o ej hj => ?_)).trans (KeepsOthers.setCell _ _ _)
    rcases (hrow.alloc tmp).2 with ⟨rfl, _⟩ | ⟨g, cap, cur, rfl, _, hgb, _⟩
    · simp [Value.ownBlock] at ej
    · obtain rfl : g = j := by simpa [Value.ownBlock] using ej
      rw [hgb] at hj; cases hj; rfl
  refine ⟨hv1, hv1.set v', hown'.kept (grownBy_setCell' w1 B v') (.inr (hv1.not_row hte hown').symm), hko, ?_, hko.walks, ?_⟩
  · refine (((Below.refl n₀ W).alloc (by omega) tmp).grown hgrow (by simp; omega) fun j ej => ?_).setCell (p := ⟨B, 0, none⟩) hB v'
    have := (hrow.lt j ej).1
    omega
  · have h1 : (w1.setCell ⟨B, 0, none⟩ v').heap[Bs]? = w1.heap[Bs]? := Below.heap_setCell w1 ⟨B, 0, none⟩ v' Bs hne
    have h2 : w1.heap[Bs]? = (W.alloc tmp).heap[Bs]? := hgrow.block Bs (by simp; omega) (fun e => by have := (hrow.lt Bs e.symm).1; omega)
    have h3 : (W.alloc tmp).heap[Bs]? = W.heap[Bs]? := Below.heap_alloc W tmp Bs (by omega)
    exact h1.trans (h2.trans h3)
theorem keeps_below {W w : World} (h : Below W.heap.size W w) : KeepsOthers W w := KeepsOthers.of_grownBy (row := none) ⟨h.os, h.tape, h.output, h.size, fun k hk _ => h.block k hk⟩ (fun j o ej => by cases ej)
theorem kpT_below {n₀ Bs : Nat} {W w : World} (h : Below W.heap.size W w) (h1 : n₀ ≤ W.heap.size) (h2 : Bs < W.heap.size) : KpT n₀ Bs W w := ⟨h.mono h1, (keeps_below h).walks, h.block _ h2⟩
theorem own_weaken {W : World} {base base' : Nat} {e : TypeId} {size : Nat} {v : Value} {k : Nat} {xs : List Value} (h : W.ownsRow base e size v k xs) (hb : base' ≤ base) : W.ownsRow base' e size v k xs := by
  refine ⟨h.1, ?_⟩
  rcases h.2 with h0 | ⟨g, cap, cur, rfl, hg, r⟩
  · exact .inl h0
  · exact .inr ⟨g, cap, cur, rfl, Nat.le_trans hb hg, r⟩
/-- What stands in the box of Words' result behind some pieces. -/
def WAt (L : List UInt8) (w : World) (pre : List (Px L)) (W : World) : Prop :=
  (∃ v, Boxed W w.heap.size 25 v ∧ W.ownsRow (w.heap.size + 2) 9 1 v pre.length (strC ((vals pre).map TK.foldL)) ∧ True) ∧ Below w.heap.size w W ∧ w.heap.size + 2 ≤ W.heap.size
theorem wAt_own (L : List UInt8) (w : World) (B : Nat) (hB : w.heap.size ≤ B) : OwnFrom B (WAt L w) :=
  OwnFrom.and (Own.from (holdsRow_own (w.heap.size + 2) w.heap.size 25 9 1 (fun pre : List (Px L) => pre.length) (fun pre => strC ((vals pre).map TK.foldL)) (fun _ _ => True)) _) (OwnFrom.and (ownFrom_below (Nat.le_refl _) hB) (fun s A B row hs hg hr => Nat.le_trans hs hg.size))
theorem rawp_mem {L x : List UInt8} (h : x ∈ TK.rawp L) : x.length ≤ L.length := by
  unfold TK.rawp at h
  rw [List.mem_map] at h
  obtain ⟨p, _, rfl⟩ := h
  exact piece_le L _ _
set_option maxHeartbeats 4000000 in
set_option maxRecDepth 100000 in
theorem words_in (L : List UInt8) (hl : L.length ≤ 140737488351232) (hn : (TK.words L).length ≤ 8000000000) (w : World) (hT : Tabs w) :
    CallsIn Fence.wide 9 Tryd.prog 12 #[.string (bs L)] w fun e W' => ∃ v, e = .returned v ∧ W'.ownsRow w.heap.size 9 1 v (TK.words L).length (strC (TK.words L)) ∧ Below w.heap.size w W' := by
  have h2 : 2 ≤ w.heap.size := by have h1 := tab_lt (hT.2 0 (by omega)).1; simp only at h1; omega
  refine callsIn_of_wp_marks Tryd.func12 rfl trivial ?_ rfl
  simp only [Tryd.ntmps12, List.size_toArray, List.length_cons, List.length_nil, Nat.reduceAdd, Nat.reduceSub, Array.replicate_succ, Array.replicate_zero, List.push_toArray, List.append_toArray, List.nil_append, List.cons_append]
  gi_wp2_with fail
  refine ⟨trivial, (callsIn_wide.2 (pieces_c _ _)).mono ?_⟩
  rintro e w' ⟨rfl, rfl⟩
  gi_wp2_with fail
  obtain ⟨W0, hW0⟩ : ∃ W0, (w.alloc (.cells #[.slice none 0 0] 25)).alloc (.cells #[.string (bs L)] 9) = W0 := ⟨_, rfl⟩
  have hs0 : W0.heap.size = w.heap.size + 2 := by rw [← hW0]; simp
  have hB0 : Boxed W0 w.heap.size 25 (.slice none 0 0) := by rw [← hW0]; exact (Boxed.new w _ _).alloc _
  have hB1 : Boxed W0 (w.heap.size + 1) 9 (.string (bs L)) := by
    rw [← hW0]
    have := Boxed.new (w.alloc (.cells #[.slice none 0 0] 25)) 9 (.string (bs L))
    rwa [World.size_alloc] at this
  have hBW : Below w.heap.size w W0 := by rw [← hW0]; exact ((Below.refl _ w).alloc (Nat.le_refl _) _).alloc (by simp) _
  try rw [hW0]
  clear hW0
  refine wpIn_rangeFunc_ownF rfl (by omega) (gf := 19) (lb := #[.pointer (some ⟨w.heap.size + 1, 0, none⟩)]) rfl trivial (enters_of Tryd.func19 (by kernel_rfl) rfl)
    (pieces_stops L (by omega) 8 (by omega) (w.heap.size + 1) w.heap.size W0 hB1.cell (hT.below hBW) h2) KpT.trans (fun W l o o' h1 h2 h3 h4 => KpT.put (B := W0.heap.size) (by omega) (by omega) W l o o' h1 h2 h3 h4) (Below.refl _ _) (fun _ => rfl)
    (WAt L w) (fun _ _ _ => False) (wAt_own L w _ (by omega)) (fun _ _ _ _ _ hs _ _ => hs) ⟨⟨_, hB0, World.ownsRow_nil _ _ _ _, trivial⟩, hBW, by omega⟩
    (fun x : Px L => { tmps := #[.string (bs L), undef, .slice none 0 0, .pointer (some ⟨w.heap.size, 0, none⟩), .string (bs x.1), .string (bs L), .func (.func 19) #[] #[.pointer (some ⟨w.heap.size + 1, 0, none⟩)], .string (bs x.1), undef, undef, undef, undef, undef, undef], defers := [] }) ?assign ?body ?done ?stop
  case assign =>
    intro l x W K hK
    gi_wp2
    exact hK
  case body =>
    rintro l pre ⟨x, hx⟩ W ⟨⟨v, hv, hr, _⟩, hB, hsz⟩ hlen
    obtain ⟨i0, hi, hz0, hz1, hz2⟩ := info_parts strInfo
    have hvl := hv.lt
    have hvc := hv.cell
    have hfol : Tryd.prog.follows .mixedOrders = true := by kernel_rfl
    gi_wp2_with fail
    refine wpIn_region_any hfol ?_
    have hxl : x.length ≤ 140737488351232 := by omega
    rw [rawp_words] at hlen
    have hbd1 : pre.length + 1 ≤ maxLen := by unfold maxLen; omega
    have hbd2 : (pre.length + 1) * 16 ≤ 140737488355328 := by omega
    have hdr : Below W.heap.size W { W with drawn := W.drawn + 1 } := (Below.refl W.heap.size W).drew
    refine wpAnyIn_ready (rs := [0, 1]) (by kernel_rfl) (by simp) ?_
    refine AllReadyIn.cons rfl (fun K hK => ?_) (AllReadyIn.cons rfl (fun K hK => ?_) AllReadyIn.nil)
    · go_simp
      refine hK _ _ ?_
      clear hK K
      refine wpAnyIn_ready (rs := [1]) (by kernel_rfl) (by simp) ?_
      refine AllReadyIn.cons rfl (fun K hK => ?_) AllReadyIn.nil
      · go_simp
        refine hK _ _ ?_
        clear hK K
        refine wpAnyIn_ready (rs := [2]) (by kernel_rfl) (by simp) ?_
        refine AllReadyIn.cons rfl (fun K hK => ?_) AllReadyIn.nil
        · go_simp
          refine ⟨trivial, ?_⟩
          (gi_at_call 9; refine (CallsIn.inRound l (callsIn_wide.2 (fold_c x _ hxl))).mono ?_; rintro e w2 ⟨rfl, hb2⟩)
          have hb2' : Below W.heap.size W w2 := hdr.trans hb2
          have hv2 : Boxed w2 w.heap.size 25 v := (hb2'.block _ hvl).trans hv
          have hvc2 := hv2.cell
          have hvc3 := (hv2.alloc (.cells #[.string (bs (TK.foldL x))] 9)).cell
          have hr2 : w2.ownsRow (w.heap.size + 2) 9 1 v pre.length (strC ((vals pre).map TK.foldL)) := own_below hr hb2'
          refine hK _ _ ?_
          clear hK K
          refine wpAnyIn_ready (rs := [3]) (by kernel_rfl) (by simp) ?_
          refine AllReadyIn.cons rfl (fun K hK => ?_) AllReadyIn.nil
          · go_simp
            refine hK _ _ ?_
            clear hK K
            refine wpAnyIn_ready (rs := [4]) (by kernel_rfl) (by simp) ?_
            refine AllReadyIn.cons rfl (fun K hK => ?_) AllReadyIn.nil
            rw [if_pos (show Region.wanted _ _ = true from rfl)]
            refine oper_append _ (.tmp 8) (.tmp 11) 25 rfl (w.heap.size + 2) 9 i0 (.string ⟨#[]⟩) 1 16 Tryd.underlying25 hi hz0 hz1 hz2 rfl (by decide) v pre.length (strC ((vals pre).map TK.foldL)) rfl (hr2.alloc _) ⟨w2.heap.size, 0, none⟩ 1 1 [.string (bs (TK.foldL x))] rfl rfl (cell_one_new _ _ _) (by simp [Value.oneCell']) hbd1 hbd2 (by have := hb2'.size; rw [World.size_alloc]; omega) ?_
            intro v' w3 hown' hgrow
            obtain ⟨g', cap', rfl⟩ := ownsRow_succ hown'
            have hsz2 := hb2'.size
            obtain ⟨hx1, hx2, hx3, hx4, hx5⟩ := appended2 (n₀ := w.heap.size) (Bs := w.heap.size + 1) hv2 (by decide) hr2 (by omega) (by omega) (Nat.le_refl _) (by omega) (by omega) hown' hgrow
            have hc1 := hx1.cell
            have hf1 := hx1.frozen
            refine hK _ _ ?_
            clear hK K
            refine wpAnyIn_ready (rs := [5]) (by kernel_rfl) (by simp) ?_
            refine AllReadyIn.cons rfl (fun K hK => ?_) AllReadyIn.nil
            go_simp
            refine hK _ _ ?_
            clear hK K
            refine wpAnyIn_done (by kernel_rfl) ?_ _
            gi_wp2
            have e9 : strC ((vals (pre ++ [(⟨x, hx⟩ : Px L)])).map TK.foldL) = strC ((vals pre).map TK.foldL) ++ [.string (bs (TK.foldL x))] := by simp [vals, strC]
            have hkp := KpT.trans (kpT_below (n₀ := w.heap.size) (Bs := w.heap.size + 1) hb2' (by omega) (by omega)) hx5
            exact ⟨(keeps_below hb2').trans hx4, hkp, ⟨_, hx2, by rw [e9, List.length_append]; exact hx3, trivial⟩, hB.trans hkp.1, by have := hkp.1.size; omega⟩
    · go_simp
      refine hK _ _ ?_
      clear hK K
      refine wpAnyIn_ready (rs := [0, 2]) (by kernel_rfl) (by simp) ?_
      refine AllReadyIn.cons rfl (fun K hK => ?_) (AllReadyIn.cons rfl (fun K hK => ?_) AllReadyIn.nil)
      · go_simp
        refine hK _ _ ?_
        clear hK K
        refine wpAnyIn_ready (rs := [2]) (by kernel_rfl) (by simp) ?_
        refine AllReadyIn.cons rfl (fun K hK => ?_) AllReadyIn.nil
        · go_simp
          refine ⟨trivial, ?_⟩
          (gi_at_call 9; refine (CallsIn.inRound l (callsIn_wide.2 (fold_c x _ hxl))).mono ?_; rintro e w2 ⟨rfl, hb2⟩)
          have hb2' : Below W.heap.size W w2 := hdr.trans hb2
          have hv2 : Boxed w2 w.heap.size 25 v := (hb2'.block _ hvl).trans hv
          have hvc2 := hv2.cell
          have hvc3 := (hv2.alloc (.cells #[.string (bs (TK.foldL x))] 9)).cell
          have hr2 : w2.ownsRow (w.heap.size + 2) 9 1 v pre.length (strC ((vals pre).map TK.foldL)) := own_below hr hb2'
          refine hK _ _ ?_
          clear hK K
          refine wpAnyIn_ready (rs := [3]) (by kernel_rfl) (by simp) ?_
          refine AllReadyIn.cons rfl (fun K hK => ?_) AllReadyIn.nil
          · go_simp
            refine hK _ _ ?_
            clear hK K
            refine wpAnyIn_ready (rs := [4]) (by kernel_rfl) (by simp) ?_
            refine AllReadyIn.cons rfl (fun K hK => ?_) AllReadyIn.nil
            rw [if_pos (show Region.wanted _ _ = true from rfl)]
            refine oper_append _ (.tmp 8) (.tmp 11) 25 rfl (w.heap.size + 2) 9 i0 (.string ⟨#[]⟩) 1 16 Tryd.underlying25 hi hz0 hz1 hz2 rfl (by decide) v pre.length (strC ((vals pre).map TK.foldL)) rfl (hr2.alloc _) ⟨w2.heap.size, 0, none⟩ 1 1 [.string (bs (TK.foldL x))] rfl rfl (cell_one_new _ _ _) (by simp [Value.oneCell']) hbd1 hbd2 (by have := hb2'.size; rw [World.size_alloc]; omega) ?_
            intro v' w3 hown' hgrow
            obtain ⟨g', cap', rfl⟩ := ownsRow_succ hown'
            have hsz2 := hb2'.size
            obtain ⟨hx1, hx2, hx3, hx4, hx5⟩ := appended2 (n₀ := w.heap.size) (Bs := w.heap.size + 1) hv2 (by decide) hr2 (by omega) (by omega) (Nat.le_refl _) (by omega) (by omega) hown' hgrow
            have hc1 := hx1.cell
            have hf1 := hx1.frozen
            refine hK _ _ ?_
            clear hK K
            refine wpAnyIn_ready (rs := [5]) (by kernel_rfl) (by simp) ?_
            refine AllReadyIn.cons rfl (fun K hK => ?_) AllReadyIn.nil
            go_simp
            refine hK _ _ ?_
            clear hK K
            refine wpAnyIn_done (by kernel_rfl) ?_ _
            gi_wp2
            have e9 : strC ((vals (pre ++ [(⟨x, hx⟩ : Px L)])).map TK.foldL) = strC ((vals pre).map TK.foldL) ++ [.string (bs (TK.foldL x))] := by simp [vals, strC]
            have hkp := KpT.trans (kpT_below (n₀ := w.heap.size) (Bs := w.heap.size + 1) hb2' (by omega) (by omega)) hx5
            exact ⟨(keeps_below hb2').trans hx4, hkp, ⟨_, hx2, by rw [e9, List.length_append]; exact hx3, trivial⟩, hB.trans hkp.1, by have := hkp.1.size; omega⟩
      · go_simp
        refine ⟨trivial, ?_⟩
        (gi_at_call 9; refine (CallsIn.inRound l (callsIn_wide.2 (fold_c x _ hxl))).mono ?_; rintro e w2 ⟨rfl, hb2⟩)
        have hb2' : Below W.heap.size W w2 := hdr.trans hb2
        have hv2 : Boxed w2 w.heap.size 25 v := (hb2'.block _ hvl).trans hv
        have hvc2 := hv2.cell
        have hvc3 := (hv2.alloc (.cells #[.string (bs (TK.foldL x))] 9)).cell
        have hr2 : w2.ownsRow (w.heap.size + 2) 9 1 v pre.length (strC ((vals pre).map TK.foldL)) := own_below hr hb2'
        refine hK _ _ ?_
        clear hK K
        refine wpAnyIn_ready (rs := [0, 3]) (by kernel_rfl) (by simp) ?_
        refine AllReadyIn.cons rfl (fun K hK => ?_) (AllReadyIn.cons rfl (fun K hK => ?_) AllReadyIn.nil)
        · go_simp
          refine hK _ _ ?_
          clear hK K
          refine wpAnyIn_ready (rs := [3]) (by kernel_rfl) (by simp) ?_
          refine AllReadyIn.cons rfl (fun K hK => ?_) AllReadyIn.nil
          · go_simp
            refine hK _ _ ?_
            clear hK K
            refine wpAnyIn_ready (rs := [4]) (by kernel_rfl) (by simp) ?_
            refine AllReadyIn.cons rfl (fun K hK => ?_) AllReadyIn.nil
            rw [if_pos (show Region.wanted _ _ = true from rfl)]
            refine oper_append _ (.tmp 8) (.tmp 11) 25 rfl (w.heap.size + 2) 9 i0 (.string ⟨#[]⟩) 1 16 Tryd.underlying25 hi hz0 hz1 hz2 rfl (by decide) v pre.length (strC ((vals pre).map TK.foldL)) rfl (hr2.alloc _) ⟨w2.heap.size, 0, none⟩ 1 1 [.string (bs (TK.foldL x))] rfl rfl (cell_one_new _ _ _) (by simp [Value.oneCell']) hbd1 hbd2 (by have := hb2'.size; rw [World.size_alloc]; omega) ?_
            intro v' w3 hown' hgrow
            obtain ⟨g', cap', rfl⟩ := ownsRow_succ hown'
            have hsz2 := hb2'.size
            obtain ⟨hx1, hx2, hx3, hx4, hx5⟩ := appended2 (n₀ := w.heap.size) (Bs := w.heap.size + 1) hv2 (by decide) hr2 (by omega) (by omega) (Nat.le_refl _) (by omega) (by omega) hown' hgrow
            have hc1 := hx1.cell
            have hf1 := hx1.frozen
            refine hK _ _ ?_
            clear hK K
            refine wpAnyIn_ready (rs := [5]) (by kernel_rfl) (by simp) ?_
            refine AllReadyIn.cons rfl (fun K hK => ?_) AllReadyIn.nil
            go_simp
            refine hK _ _ ?_
            clear hK K
            refine wpAnyIn_done (by kernel_rfl) ?_ _
            gi_wp2
            have e9 : strC ((vals (pre ++ [(⟨x, hx⟩ : Px L)])).map TK.foldL) = strC ((vals pre).map TK.foldL) ++ [.string (bs (TK.foldL x))] := by simp [vals, strC]
            have hkp := KpT.trans (kpT_below (n₀ := w.heap.size) (Bs := w.heap.size + 1) hb2' (by omega) (by omega)) hx5
            exact ⟨(keeps_below hb2').trans hx4, hkp, ⟨_, hx2, by rw [e9, List.length_append]; exact hx3, trivial⟩, hB.trans hkp.1, by have := hkp.1.size; omega⟩
        · go_simp
          refine hK _ _ ?_
          clear hK K
          refine wpAnyIn_ready (rs := [0]) (by kernel_rfl) (by simp) ?_
          refine AllReadyIn.cons rfl (fun K hK => ?_) AllReadyIn.nil
          · go_simp
            refine hK _ _ ?_
            clear hK K
            refine wpAnyIn_ready (rs := [4]) (by kernel_rfl) (by simp) ?_
            refine AllReadyIn.cons rfl (fun K hK => ?_) AllReadyIn.nil
            rw [if_pos (show Region.wanted _ _ = true from rfl)]
            refine oper_append _ (.tmp 8) (.tmp 11) 25 rfl (w.heap.size + 2) 9 i0 (.string ⟨#[]⟩) 1 16 Tryd.underlying25 hi hz0 hz1 hz2 rfl (by decide) v pre.length (strC ((vals pre).map TK.foldL)) rfl (hr2.alloc _) ⟨w2.heap.size, 0, none⟩ 1 1 [.string (bs (TK.foldL x))] rfl rfl (cell_one_new _ _ _) (by simp [Value.oneCell']) hbd1 hbd2 (by have := hb2'.size; rw [World.size_alloc]; omega) ?_
            intro v' w3 hown' hgrow
            obtain ⟨g', cap', rfl⟩ := ownsRow_succ hown'
            have hsz2 := hb2'.size
            obtain ⟨hx1, hx2, hx3, hx4, hx5⟩ := appended2 (n₀ := w.heap.size) (Bs := w.heap.size + 1) hv2 (by decide) hr2 (by omega) (by omega) (Nat.le_refl _) (by omega) (by omega) hown' hgrow
            have hc1 := hx1.cell
            have hf1 := hx1.frozen
            refine hK _ _ ?_
            clear hK K
            refine wpAnyIn_ready (rs := [5]) (by kernel_rfl) (by simp) ?_
            refine AllReadyIn.cons rfl (fun K hK => ?_) AllReadyIn.nil
            go_simp
            refine hK _ _ ?_
            clear hK K
            refine wpAnyIn_done (by kernel_rfl) ?_ _
            gi_wp2
            have e9 : strC ((vals (pre ++ [(⟨x, hx⟩ : Px L)])).map TK.foldL) = strC ((vals pre).map TK.foldL) ++ [.string (bs (TK.foldL x))] := by simp [vals, strC]
            have hkp := KpT.trans (kpT_below (n₀ := w.heap.size) (Bs := w.heap.size + 1) hb2' (by omega) (by omega)) hx5
            exact ⟨(keeps_below hb2').trans hx4, hkp, ⟨_, hx2, by rw [e9, List.length_append]; exact hx3, trivial⟩, hB.trans hkp.1, by have := hkp.1.size; omega⟩
  case done =>
    rintro D ys W hD hS ⟨⟨v, hv, hr, _⟩, hB, hsz⟩ hK
    have hvc := hv.cell
    gi_wp2
    refine ⟨by simp, .inl ⟨_, _, rfl, run_takeDeferred hK, ?_⟩⟩
    have hl2 : ys.length = (TK.words L).length := by
      have h3 := congrArg List.length hS
      rw [vals_len] at h3
      rw [h3]
      simp [TK.rawp, TK.words]
    have hl3 : (vals ys).map TK.foldL = TK.words L := by
      rw [show vals ys = TK.rawp L from hS]
      simp [TK.rawp, TK.words]
    rw [hl2, hl3] at hr
    refine ⟨_, results_tmp rfl _ _ _, _, rfl, ?_, ?_⟩
    · exact own_weaken (ownsRow_putObj hr _ hK rfl) (by omega)
    · exact hB.trans (belowK_b (w := w) (Nat.le_refl _) W D _ _ (by omega) hK rfl rfl)
  case stop =>
    rintro D c pre W _ _ h _
    exact h.elim
end Go.Proofs.YtfndedkcmnknkaaDoor
