/- The document's disk: a file taken out of the row. No condition. -/
import Derived.Test.YtpdimmkacjilgaaKdFind
import Derived.Maps.AppendAt
import Derived.Deep.DeepCutAuto
namespace Go.Proofs.Ytpdimmkacjilgaa
open Go.RowKit Go.Maps Go.ChangeMaps Go.WideMaps Go.Shelf
set_option linter.unusedVariables false
attribute [local go_sem ↓] Go.wp_at_zero Go.wp_at_succ
theorem infoFile : (Try.prog.info? 63).map (fun i => (i.zero, i.size, i.bytes)) = some (some (.agg #[.string ⟨#[]⟩, .string ⟨#[]⟩, .int .i64 0]), 3, 40) := by kernel_rfl
theorem cells_one {L : List AF} : ∀ u ∈ fileCells L, u.oneCell' = true := by
  intro u hu
  unfold fileCells at hu
  obtain ⟨x, _, hx⟩ := List.mem_flatMap.1 hu
  unfold fC at hx
  simp at hx
  rcases hx with rfl | rfl | rfl <;> rfl
/-- The cells of a piece of the row. -/
theorem piece_cells {w : World} {q g m cap : Nat} {a : Ab} (h : KAt w q a (.slice (some ⟨g, 0, none⟩) m cap)) (i k : Nat) (hk : i + k ≤ a.L.length) :
    (fileCells ((a.L.drop i).take k)).length = k * 3 ∧ ∀ j u, (fileCells ((a.L.drop i).take k))[j]? = some u → w.cell? ((⟨g, i * 3, none⟩ : Addr).add j) = some u := by
  have hl : (fileCells ((a.L.drop i).take k)).length = k * 3 := by rw [fileCells_len, List.length_take, List.length_drop]; congr 1; omega
  refine ⟨hl, fun j u hu => ?_⟩
  have hj : j < k * 3 := by
    have := (List.getElem?_eq_some_iff.1 hu).1
    omega
  rw [fileCells_take _ _ (by rw [List.length_drop]; omega), fileCells_drop _ _ (by omega), List.getElem?_take, if_pos hj, List.getElem?_drop] at hu
  have hm : m = a.L.length := by
    rcases h.shape with ⟨h1, _⟩ | ⟨g', cap', h1⟩
    · cases h1
    · injection h1
  subst hm
  rw [addr_at]
  rw [h.row.cellAt (i * 3 + j) (by omega)]
  exact hu
set_option maxHeartbeats 2000000 in
set_option maxRecDepth 100000 in
theorem kcutf_c (q : Nat) (a : Ab) (S : Nat → Prop) (W : World) (h : KIs W q a S) (hlen : a.L.length ≤ 1000000) (i : Nat) (hi : i < a.L.length) :
    Calls Try.prog 52 #[dp q, .int .i64 (i : Int)] W (KDoes W q S (.tuple #[]) { a with L := a.L.take i ++ a.L.drop (i + 1) }) := by
  obtain ⟨v, h, hq, hvS⟩ := h
  rcases h.shape with ⟨_, h2⟩ | ⟨g, cap, rfl⟩
  · rw [h2] at hi; simp at hi
  have y1 : W.cell? ⟨q, 1, none⟩ = some (.slice (some ⟨g, 0, none⟩) a.L.length cap) := (h.box.cell 1).trans rfl
  have hcap : a.L.length ≤ cap ∧ cap ≤ maxLen := by
    rcases h.row.2 with ⟨h1, _⟩ | ⟨g', cap', cur, h1, _, _, h3, h4, _⟩
    · cases h1
    · injection h1 with _ _ h1
      subst h1
      exact ⟨h3, h4⟩
  obtain ⟨p1, p2⟩ := piece_cells h 0 i (by omega)
  obtain ⟨p3, p4⟩ := piece_cells h (i + 1) (a.L.length - (i + 1)) (by omega)
  rw [List.drop_zero] at p1 p2
  rw [show ((a.L.drop (i + 1)).take (a.L.length - (i + 1))) = a.L.drop (i + 1) by rw [List.take_of_length_le]; rw [List.length_drop]; omega] at p3 p4
  rw [Nat.zero_mul] at p2
  have hg : g < W.heap.size := (h.row.lt g rfl).2
  have hgq : g ≠ q := h.ne g rfl
  obtain ⟨i0, hinf, hz⟩ := Option.map_eq_some_iff.1 infoFile
  simp only [Prod.mk.injEq] at hz
  obtain ⟨hz0, hz1, hz2⟩ := hz
  have z1 := h.box.frozen 1
  have HK := Lib.hid h
  have hii : (0 : Int) ≤ (i : Int) := by omega
  have hic : (i : Int) ≤ (cap : Int) := by omega
  have hiw : IntKind.i64.wrap ((i : Int) + 1) = ((i + 1 : Nat) : Int) := by rw [IntWalk.i64_in _ (by omega)]; omega
  obtain ⟨k, hk⟩ : ∃ k, i + 1 = k := ⟨_, rfl⟩
  rw [hk] at hiw p3 p4 ⊢
  have hic3 : (k : Int) ≤ (a.L.length : Int) := by omega
  have hic4 : (0 : Int) ≤ (k : Int) := by omega
  clear h
  unfold dp
  go_enter Try.func52, Try.ntmps52
  go_wp2_with (at_builtin; refine wpList_append_own_at _ rfl _ _ 29 rfl W.heap.size 63 i0 _ 3 40 Try.underlying29 hinf hz0 hz1 hz2 rfl (by decide) (.slice none 0 0) 0 [] rfl (World.ownsRow_nil _ _ _ _) ⟨g, 0, none⟩ i cap (fileCells (a.L.take i)) rfl p1 p2 cells_one (by unfold maxLen; omega) (by omega) (Nat.le_refl _) ?_)
  intro v1 w1 hown1 hgrow1 hnil1 hlies1
  have hb1 : Below W.heap.size W w1 := (Below.refl _ W).grown hgrow1 (Nat.le_refl _) (fun k e => by cases e)
  have hK1 := HK.out.later hb1
  have y1' : w1.cell? ⟨q, 1, none⟩ = some (.slice (some ⟨g, 0, none⟩) a.L.length cap) := (hK1.box.cell 1).trans rfl
  have p5 : ∀ j u, (fileCells (a.L.drop k))[j]? = some u → w1.cell? ((⟨g, k * 3, none⟩ : Addr).add j) = some u := fun j u hu => by
    have := p4 j u hu
    rw [addr_at] at this ⊢
    exact (World.cell?_of_block (hb1.block g hg)).trans this
  obtain ⟨ao1, n1, cap1, rfl⟩ := own_sl hown1
  clear y1 p1 p2 p4
  have hfin : ∀ (v2 : Value) (w2 : World), w2.ownsRow W.heap.size 63 3 v2 (i + (a.L.length - k)) (fileCells (a.L.take i) ++ fileCells (a.L.drop k)) → w1.grownBy w2 (Value.slice ao1 n1 cap1).ownBlock →
      w2.cell? ⟨q, 1, none⟩ = some (.slice (some ⟨g, 0, none⟩) a.L.length cap) ∧ w2.frozen? ⟨q, 1, none⟩ = false ∧ KDoes W q S (.tuple #[]) { a with L := a.L.take i ++ a.L.drop k } (.returned (.tuple #[])) (w2.setCell ⟨q, 1, none⟩ v2) := by
    intro v2 w2 hown2 hgrow2
    have hqb := hK1.box
    have hb2 : Box w2 q 31 #[.int .i64 a.room, .slice (some ⟨g, 0, none⟩) a.L.length cap, .int .i64 (fuseOf a)] := box_row hqb hgrow2 (fun j hj e => by
      have h1 := (hown1.lt j hj).1
      have h2 := HK.out.box.lt
      omega)
    refine ⟨(hb2.cell 1).trans rfl, hb2.frozen 1, rfl, ⟨v2, ⟨hb2.set 1 v2, ?_⟩, .inl hq, fun j hj => .inr (hown2.lt j hj).1⟩, ?_⟩
    · have h3 := own_off (own_base hown2 (Nat.zero_le _)) (Off.one w2 ⟨q, 1, none⟩ v2) (fun j hj e => by
        have h1 := (hown2.lt j hj).1
        have h2 := HK.out.box.lt
        have e' : j = q := e
        omega)
      have e1 : (a.L.take i ++ a.L.drop k).length = i + (a.L.length - k) := by rw [List.length_append, List.length_take, List.length_drop]; omega
      show World.ownsRow _ 0 63 3 v2 (a.L.take i ++ a.L.drop k).length (fileCells (a.L.take i ++ a.L.drop k))
      rw [e1, fileCells_app]
      exact h3
    · have o1 : Off S W w2 := (Off.of_below S hb1).grown hgrow2 (fun j hj hlt => absurd (hown1.lt j hj).1 (by omega))
      exact o1.set (.inl hq) v2
  have HF := Lib.hid hfin
  clear hfin
  rcases Nat.lt_or_ge k cap with hkc | hkc
  · have hkn : ¬ cap - k = 0 := by omega
    have hkn2 : ¬ cap = k := by omega
    have hkn3 : ¬ k = cap := by omega
    have hkn4 : ¬ cap ≤ k := by omega
    go_wp2_with (at_builtin; refine wpList_append_own_at _ rfl _ _ 29 rfl W.heap.size 63 i0 _ 3 40 Try.underlying29 hinf hz0 hz1 hz2 rfl (by decide) (.slice ao1 n1 cap1) i _ rfl hown1 ⟨g, k * 3, none⟩ (a.L.length - k) (cap - k) (fileCells (a.L.drop k)) rfl p3 p5 cells_one (by unfold maxLen; omega) (by omega) hb1.size ?_)
    intro v2 w2 hown2 hgrow2 hnil2 hlies2
    obtain ⟨f1, f2, f3⟩ := HF.out v2 w2 hown2 hgrow2
    obtain ⟨ao2, n2, cap2, rfl⟩ := own_sl hown2
    have F3 := Lib.hid f3
    clear f3 hown2 hgrow2 hnil2 hlies2
    go_wp2
    go_end0
    exact F3.out
  · have hke : cap = k := by omega
    have hd0 : a.L.drop k = [] := by rw [List.drop_eq_nil_iff]; omega
    have hlz : a.L.length - k = 0 := by omega
    have HE := Lib.hid (And.intro hd0 hlz)
    subst hke
    clear hd0 hlz p3 p5
    go_wp2_with (at_builtin; refine wpList_append_own_at _ rfl _ _ 29 rfl W.heap.size 63 i0 _ 3 40 Try.underlying29 hinf hz0 hz1 hz2 rfl (by decide) (.slice ao1 n1 cap1) i _ rfl hown1 ⟨g, 0, none⟩ 0 0 [] rfl rfl (fun j u hu => by simp at hu) (fun u hu => by simp at hu) (by unfold maxLen; omega) (by omega) hb1.size ?_)
    intro v2 w2 hown2 hgrow2 hnil2 hlies2
    obtain ⟨f1, f2, f3⟩ := HF.out v2 w2 (by rw [HE.out.1, HE.out.2, show fileCells [] = [] from rfl, List.append_nil, Nat.add_zero]; exact hown2) hgrow2
    obtain ⟨ao2, n2, cap2, rfl⟩ := own_sl hown2
    have F3 := Lib.hid f3
    clear f3 hown2 hgrow2 hnil2 hlies2
    go_wp2
    go_end0
    exact F3.out
/-- Up ahead of a call of the document's disk that is down. -/
theorem kdrop_c (q : Nat) (a : Ab) (S : Nat → Prop) (n : ByteArray) (W : World) (h : KIs W q a S) (ha : AbOk a) (hlen : a.L.length ≤ 1000000) :
    Calls Try.prog 31 #[dp q, .string n] W (KDoes W q S (.int .i64 (seeE a n.data.toList)) (dropA a n.data.toList)) := by
  have hI := h
  obtain ⟨v, h, hq, hvS⟩ := h
  have c1 := kup_c q a v W h ha
  have c2 := kfind_c q a v n W h hlen
  unfold seeE dropA
  unfold dp at *
  cases hu : upA a with
  | false =>
    rw [hu] at c1
    go_enter Try.func31, Try.ntmps31
    go_wp2_with fail
    (with_reducible refine c1.mono ?_)
    rintro en w1 ⟨rfl, rfl⟩
    go_wp2
    go_ret
    exact kdoes_tells hI ⟨rfl, rfl⟩
  | true =>
    rw [hu] at c1
    rcases kidx_spec n.data.toList a.L 0 with ⟨h1, h2⟩ | ⟨i, x, h1, h2, h3, h4⟩
    · rw [h1] at c2
      rw [h2]
      go_enter Try.func31, Try.ntmps31
      go_wp2_with fail
      (with_reducible refine c1.mono ?_)
      rintro en w1 ⟨rfl, hw⟩
      have hw' := hw.symm
      subst hw'
      go_wp2_with fail
      (with_reducible refine c2.mono ?_)
      rintro en w1 ⟨rfl, rfl⟩
      go_wp2
      go_ret
      exact kdoes_tells hI ⟨rfl, rfl⟩
    · rw [h1, Nat.zero_add] at c2
      rw [h3]
      have hil : i < a.L.length := (List.getElem?_eq_some_iff.1 h2).1
      have hc := kcutf_c q a S W hI hlen i hil
      have hdl := delL_at ha.sorted h2
      rw [h4] at hdl
      have HD := Lib.hid hdl
      unfold dp at hc
      clear h h1 h3 hdl
      go_enter Try.func31, Try.ntmps31
      go_wp2_with fail
      (with_reducible refine c1.mono ?_)
      rintro en w1 ⟨rfl, hw⟩
      have hw' := hw.symm
      subst hw'
      go_wp2_with fail
      (with_reducible refine c2.mono ?_)
      rintro en w1 ⟨rfl, hw⟩
      have hw' := hw.symm
      subst hw'
      go_wp2_with fail
      (with_reducible refine hc.mono ?_)
      rintro en w1 ⟨rfl, ⟨v1, hk1, hq1, hv1⟩, ho1⟩
      have hch := kchg hk1 ha hu
      unfold dp at hch
      go_wp2_with fail
      (with_reducible refine hch.mono ?_)
      rintro en w2 ⟨rfl, hk2, ho2⟩
      go_wp2
      go_ret
      refine ⟨rfl, ⟨v1, ?_, .inl hq, hv1⟩, ho1.trans ho2 fun k _ e => by rw [e]; exact hq⟩
      try simp only [Option.isSome_some, and_self, if_true]
      rw [HD.out]
      exact hk2
set_option maxHeartbeats 8000000 in
set_option maxRecDepth 100000 in
theorem kcut_c (q : Nat) (a : Ab) (S : Nat → Prop) (n : ByteArray) (t : Int) (W : World) (h : KIs W q a S) (ha : AbOk a) (hlen : a.L.length ≤ 1000000) :
    Calls Try.prog 29 #[dp q, .string n, .int .i64 t] W (KDoes W q S (.int .i64 (cutE a n.data.toList t)) (cutA a n.data.toList t)) := by
  have hI := h
  obtain ⟨v, h, hq, hvS⟩ := h
  have c1 := kup_c q a v W h ha
  have c2 := kfind_c q a v n W h hlen
  unfold cutE cutA
  unfold dp at *
  cases hu : upA a with
  | false =>
    rw [hu] at c1
    go_enter Try.func29, Try.ntmps29
    go_wp2_with fail
    (with_reducible refine c1.mono ?_)
    rintro en w1 ⟨rfl, rfl⟩
    go_wp2
    go_ret
    exact kdoes_tells hI ⟨rfl, rfl⟩
  | true =>
    rw [hu] at c1
    rcases kidx_spec n.data.toList a.L 0 with ⟨h1, h2⟩ | ⟨i, x, h1, h2, h3, h4⟩
    · rw [h1] at c2
      rw [h2]
      go_enter Try.func29, Try.ntmps29
      go_wp2_with fail
      (with_reducible refine c1.mono ?_)
      rintro en w1 ⟨rfl, hw⟩
      have hw' := hw.symm
      subst hw'
      go_wp2_with fail
      (with_reducible refine c2.mono ?_)
      rintro en w1 ⟨rfl, rfl⟩
      go_wp2
      go_ret
      exact kdoes_tells hI ⟨rfl, rfl⟩
    · rw [h1, Nat.zero_add] at c2
      rw [h3]
      obtain ⟨nb, cap, rfl⟩ := h.slice
      have y1 : W.cell? ⟨q, 1, none⟩ = some (.slice nb a.L.length cap) := (h.box.cell 1).trans rfl
      obtain ⟨g, rfl, b0, b1, b2, b3⟩ := h.file h2
      have hil : i < a.L.length := (List.getElem?_eq_some_iff.1 h2).1
      have hsz : (⟨x.2.1.toArray⟩ : ByteArray).size = x.2.1.length := by show x.2.1.toArray.size = _; simp
      have hx4 : x.2.1.length ≤ 4194304 := by
        have h5 := totL_take h2
        have h6 := totL_take_le a.L (i + 1)
        have h7 := ha.tot
        have h8 := ha.room
        omega
      by_cases hbad : t < 0 ∨ (x.2.1.length : Int) < t
      · simp only [if_pos hbad]
        rw [← hsz] at hbad
        generalize (⟨x.2.1.toArray⟩ : ByteArray) = sx at *
        rcases hbad with hb1 | hb2
        · go_enter Try.func29, Try.ntmps29
          go_wp2_with fail
          (with_reducible refine c1.mono ?_)
          rintro en w1 ⟨rfl, hw⟩
          have hw' := hw.symm
          subst hw'
          go_wp2_with fail
          (with_reducible refine c2.mono ?_)
          rintro en w1 ⟨rfl, hw⟩
          have hw' := hw.symm
          subst hw'
          go_wp2
          go_ret
          exact kdoes_tells hI ⟨rfl, rfl⟩
        · have hb3 : ¬ t < 0 := by omega
          go_enter Try.func29, Try.ntmps29
          go_wp2_with fail
          (with_reducible refine c1.mono ?_)
          rintro en w1 ⟨rfl, hw⟩
          have hw' := hw.symm
          subst hw'
          go_wp2_with fail
          (with_reducible refine c2.mono ?_)
          rintro en w1 ⟨rfl, hw⟩
          have hw' := hw.symm
          subst hw'
          go_wp2
          go_ret
          exact kdoes_tells hI ⟨rfl, rfl⟩
      · simp only [if_neg hbad]
        obtain ⟨t, rfl⟩ : ∃ k : Nat, t = k := ⟨t.toNat, by omega⟩
        have htl : t ≤ x.2.1.length := by
          have : ¬ (x.2.1.length : Int) < (t : Int) := fun e => hbad (.inr e)
          omega
        have hset := setL_set ha.sorted (y := (n.data.toList, x.2.1.take t, min x.2.2 t)) h2
        rw [h4] at hset
        have HS := Lib.hid (And.intro hset h4)
        obtain ⟨k0, o0⟩ := h.set1 h2 (x.2.1.take t)
        have k1 := k0.later (Below.refl _ _).drew
        have h2b : (a.L.set i (x.1, x.2.1.take t, x.2.2))[i]? = some (x.1, x.2.1.take t, x.2.2) := by rw [List.getElem?_set_self hil]
        obtain ⟨g', hg', e0, e1, e2, e3⟩ := k1.file (j := i) h2b
        have hgg : g' = g := by injection hg' with e; injection e with e; exact e.symm
        subst hgg
        have y1' := (k1.box.cell 1).trans rfl
        simp only [List.getElem?_toArray, List.getElem?_cons_zero, List.getElem?_cons_succ] at y1'
        have hx : (⟨(x.2.1.take t).toArray⟩ : ByteArray) = (⟨x.2.1.toArray⟩ : ByteArray).extract 0 t := by
          apply ByteArray.ext
          apply Array.toList_inj.1
          simp
        rw [hx] at k1 e1 e2 y1' k0
        have htz : t ≤ (⟨x.2.1.toArray⟩ : ByteArray).size := by rw [hsz]; exact htl
        have ht0 : (0 : Int) ≤ (t : Int) := by omega
        clear hset hbad hg'
        go_enter Try.func29, Try.ntmps29
        generalize (⟨x.2.1.toArray⟩ : ByteArray) = sx at *
        have htz' : (t : Int) ≤ (sx.size : Int) := by omega
        have htz3 : ¬ (sx.size : Int) < (t : Int) := by omega
        go_wp2_with fail
        (with_reducible refine c1.mono ?_)
        rintro en w1 ⟨rfl, hw⟩
        have hw' := hw.symm
        subst hw'
        go_wp2_with fail
        (with_reducible refine c2.mono ?_)
        rintro en w1 ⟨rfl, hw⟩
        have hw' := hw.symm
        subst hw'
        go_upto_region 8 with fail
        go_cut [] (fun w => (W.setCell ⟨g', i * 3 + 1, none⟩ (.string (sx.extract 0 t))).drew = w)
        case first =>
          go_region_with (fail)
          all_goals
            go_wp2_with fail
            go_meet
            exact rfl
        case rest =>
          subst hcut
          have hk2 : KAt ((W.setCell ⟨g', i * 3 + 1, none⟩ (.string (sx.extract 0 t))).setCell ⟨g', i * 3 + 2, none⟩ (.int .i64 (min x.2.2 t : Nat))).drew.drew q { a with L := a.L.set i (x.1, x.2.1.take t, min x.2.2 t) } (.slice (some ⟨g', 0, none⟩) a.L.length cap) := by
            have := (k1.set2' h2b (min x.2.2 t)).1.later (Below.refl _ _).drew
            rw [List.set_set] at this
            exact this
          have ho2 : Off (fun k => k = g') W ((W.setCell ⟨g', i * 3 + 1, none⟩ (.string (sx.extract 0 t))).setCell ⟨g', i * 3 + 2, none⟩ (.int .i64 (min x.2.2 t : Nat))).drew.drew := ((Off.one W ⟨g', i * 3 + 1, none⟩ _).drew.set (p := ⟨g', i * 3 + 2, none⟩) (.inl rfl) _).drew
          have hch := kchg hk2 ha hu
          unfold dp at hch
          have hmin : min (x.2.2 : Int) (t : Int) = ((min x.2.2 t : Nat) : Int) := by omega
          have HO := Lib.hid ho2
          clear ho2 hk2 k1 k0 o0 h c1 c2
          go_upto_region 9 with fail
          go_cut [] (fun w => ((W.setCell ⟨g', i * 3 + 1, none⟩ (.string (sx.extract 0 t))).setCell ⟨g', i * 3 + 2, none⟩ (.int .i64 (min x.2.2 t : Nat))).drew.drew = w)
          case first =>
            go_region_with (fail)
            all_goals
              go_wp2_with fail
              go_meet
              exact rfl
          case rest =>
            subst hcut
            go_wp2_with fail
            (with_reducible refine hch.mono ?_)
            rintro en w1 ⟨rfl, hk3, ho3⟩
            go_wp2
            go_ret
            refine ⟨rfl, ⟨_, ?_, .inl hq, fun k hk => .inl (hvS k hk)⟩, (HO.out.mono fun k _ e => ?_).trans ho3 fun k _ e => ?_⟩
            · rw [Int.toNat_natCast, HS.out.1, ← HS.out.2]
              exact hk3
            · exact hvS k (by rw [e]; rfl)
            · rw [e]; exact hq
end Go.Proofs.Ytpdimmkacjilgaa
