/- topic: gaveTwice: the walk. No condition but that they are not too many. -/
import Derived.Test.YtnpfakjgocnkbaaTpGt
import Derived.Maps.AppendAt
namespace Go.Proofs.Ytnpfakjgocnkbaa
open Go.RowKit Go.Maps Go.ChangeMaps Go.WideMaps Go.MapKept Go.Sort
set_option linter.unusedVariables false
theorem intInfo : (Try.prog.info? 3).map (fun i => (i.zero, i.size, i.bytes)) = some (some (.int .i64 0), 1, 8) := by kernel_rfl
/-- Between two rounds: the ids of those that have come. -/
structure GtI (W : World) (g : Nat) (F : List TE) (v : Value) (left : Lit → Bool) (w : World) : Prop where
  row : ∃ L : List Int, w.ownsRow (W.heap.size + 1) 3 1 v L.length (L.map (Value.int .i64)) ∧ L.Perm ((gone left F).map (·.id))
  bel : Below W.heap.size W w
theorem own_slc {w : World} {base e size n : Nat} {v : Value} {xs : List Value} (h : w.ownsRow base e size v n xs) : ∃ A c, v = .slice A n c := by
  rcases h.2 with ⟨hv, h0⟩ | ⟨g, cap, cur, hv, _⟩
  · subst h0
    exact ⟨none, 0, hv⟩
  · exact ⟨_, _, hv⟩
theorem news_at {w : World} {g : Nat} {t : TypeId} {cs : Array Value} (h : Box w g t cs) : ∀ j u, cs.toList[j]? = some u → w.cell? ((⟨g, 0, none⟩ : Addr).add j) = some u := by
  intro j u hu
  have e1 : (⟨g, 0, none⟩ : Addr).add j = ⟨g, j, none⟩ := by unfold Addr.add; split <;> simp_all
  rw [e1, h.cell j]
  simpa using hu
set_option maxHeartbeats 8000000 in
set_option maxRecDepth 100000 in
theorem twice_map (p g : Nat) (n : Int) (F : List TE) (W : World) (h : TbIs W p (some g) n F) (hown : W.ownsMap Try.prog 9 tokT g F.length (mapT F)) (hlen : F.length ≤ 1000000) :
    Calls Try.prog 41 #[dp p] W (Good W (.bool (twB F))) := by
  obtain ⟨y0, y1, hpl⟩ := h.cells
  have hml := hown.lt
  obtain ⟨i0, hi, hz0, hz1, hz2⟩ := info_parts intInfo
  have H := Lib.hid h
  unfold dp at *
  clear h
  go_enter Try.func41, Try.ntmps41
  go_wp2_with (first
    | (at_range; refine wpList_range_own _ rfl _ 54 rfl 9 59 (string_keyed Try.underlying9) Try.underlying54 tokT g F.length (mapT F) rfl hown ?_; intro w0 hrg0 hg0 hs0)
    | go_in)
  go_frame
  have ST : Hid (GtI W g F (.slice none 0 0) (Maps.has (mapT F)) w0) := Lib.hid ⟨⟨[], World.ownsRow_nil _ _ _ _, by rw [gone_start]; exact List.Perm.refl _⟩, (Below.refl _ W).grown hg0 (Nat.le_refl _) (fun k e => by cases e)⟩
  clear y0 y1
  go_loopw [3, 5] (fun v _ wr => ∃ (left : Lit → Bool) (cnt : Nat), wr.ranges Try.prog 9 tokT g W.heap.size F.length (mapT F) left cnt ∧ GtI W g F v left wr)
    (fun _ _ wr => wr.rangeLeft g W.heap.size)
  case atStart => exact ⟨_, _, hrg0, ST.out⟩
  case round =>
    obtain ⟨left, cnt, hrg, hI⟩ := hrel
    have HI := Lib.hid hI
    clear hI ST
    obtain ⟨L, hrow, hperm⟩ := HI.out.row
    obtain ⟨A, c, rfl⟩ := own_slc hrow
    have HR := Lib.hid hrow
    have HPM := Lib.hid hperm
    clear hrow hperm
    go_wp2_with (first
      | (at_next; refine wpList_next_ranges _ rfl _ rfl 9 (string_keyed Try.underlying9) tokT Value.string mkE (fun key kl hk => key_shape key kl hk) (fun v y hv => tokT_shape v y hv) g W.heap.size F.length (mapT F) left cnt rfl hrg ?_ ?_)
      | go_in)
    · intro hc0 hl0
      have hperm := HPM.out
      rw [gone_end hl0] at hperm
      have hLF : L.length = F.length := by rw [hperm.length_eq, List.length_map]
      have HP2 := Lib.hid hperm
      have HW := Lib.hid HI.out.bel
      have hT1 := H.out.later HW.out
      have HT1 := Lib.hid hT1
      have hlr := len_run hT1
      obtain ⟨_, z1, hz⟩ := hT1.cells
      clear hrg hc0 hl0 HPM hperm hT1
      cases L with
      | nil =>
        have HF : Hid (F.length = 0) := Lib.hid (by simpa using hLF.symm)
        have cs := fun w => Try.slices_Sort_int_none A c w
        have cc := fun w => Try.slices_Compact_int_empty A c w
        have hlr2 := len_run (HT1.out.later (w' := wr.drew) (Below.refl _ wr).drew)
        have z2 : wr.drew.cell? ⟨p, 1, none⟩ = some (.map (some g)) := z1
        rw [List.length_nil]
        go_wp2_with fail
        with_reducible refine (cs _).mono ?_
        rintro en w2 ⟨rfl, hw2⟩
        have hw2' := hw2.symm
        subst hw2'
        go_wp2_with fail
        go_region_held3 (fun w => w.cell? ⟨p, 1, none⟩ = some (.map (some g)) ∧ ∀ ty : TypeId, (Builtin.len_ #[54] ty #[.map (some g)]).run Try.prog w = .ok (.int .i64 (F.length : Int)) w) (first | exact ⟨z2, hlr2⟩ | exact ⟨z1, hlr⟩) (first | ((with_reducible refine (cc _).mono ?_); rintro en w3 ⟨rfl, hw3⟩; have hw3' := hw3.symm; subst hw3'))
        all_goals
          go_wp2_with fail
          go_ret
          refine ⟨?_, HW.out.drew⟩
          have hF0 : F = [] := List.length_eq_zero_iff.1 HF.out
          rw [hF0]
          rfl
      | cons a r =>
        have hne : Value.slice A (a :: r).length c ≠ .slice none 0 0 := by
          intro e
          injection e with _ e2 _
          simp at e2
        obtain ⟨gr, cap, hv, hbg, hgl, hncap, hcm, hlen1, hH⟩ := Lib.holds_of_ownsRow HR.out hne
        injection hv with hA _ hC
        subst hA hC
        obtain ⟨S, hS⟩ : ∃ S : List Int, S = (a :: r).mergeSort (fun x y => decide (x ≤ y)) := ⟨_, rfl⟩
        have hSp : S.Perm (F.map (·.id)) := by rw [hS]; exact (List.mergeSort_perm _ _).trans HP2.out
        have hSs : S.Pairwise (· ≤ ·) := by
          rw [hS]
          have := List.pairwise_mergeSort (le := fun x y : Int => decide (x ≤ y)) (fun x y z h k => by simp only [decide_eq_true_eq] at *; omega) (fun x y => by simp only [Bool.or_eq_true, decide_eq_true_eq]; omega) (a :: r)
          exact this.imp fun h => by simpa using h
        have hSl : S.length = (a :: r).length := by rw [hS, List.length_mergeSort]
        have hll : (a :: r).length ≤ 1000000 := by omega
        have cs := Try.slices_Sort_int gr 0 c (a :: r) wr hH hgl (by omega)
        rw [← hS] at cs
        have HSP := Lib.hid hSp
        have HSS := Lib.hid hSs
        have HSL := Lib.hid hSl
        have HSL2 : Hid (S.length = r.length + 1) := Lib.hid (by rw [hSl]; rfl)
        have HHH := Lib.hid hH
        have HLF := Lib.hid hLF
        clear hLF
        generalize (a :: r).length = N at *
        clear hne hlr z1 hz hSp hSs hSl hlen1 hS hH
        go_wp2_with fail
        with_reducible refine cs.mono ?_
        rintro en w2 ⟨rfl, nn, os, hw2⟩
        have hH2 : Holds (Value.int .i64) w2 gr 0 S.toArray := by
          subst hw2
          exact holds_grow _ _ os gr 0 _ (by simpa [putRow, mapBlock, Sort.ahead] using hgl) (holds_putRow _ _ gr 0 _ _ (holds_ahead _ wr nn gr 0 _ HHH.out) (by simp; have := HSL2.out; omega))
        have hg2 : wr.grownBy w2 (some gr) := by
          subst hw2
          exact grownBy_sortedI _
        have ho2 : Off (fun k => k = gr) wr w2 := ⟨hg2.os, hg2.tape, hg2.output, hg2.size, fun k hk hn => hg2.block k hk (fun e => hn (Option.some.inj e))⟩
        have hT2 : TbIs w2 p (some g) n F := HT1.out.off ho2 (by omega) (fun k hk e => by cases hk; have e : g = gr := e; omega)
        have HB2 := Lib.hid (HW.out.trans (ho2.below HW.out.size (fun k hk => by omega)))
        have HT2 := Lib.hid hT2
        have hc0 := Try.slices_Compact_int gr 0 c S w2.drew hH2 (by have := HSL.out; omega) (by have := HSL.out; omega)
        rw [HSL.out] at hc0
        have hlr := len_run hT2
        have hlr1 := len_run (hT2.later (w' := w2.drew) (Below.refl _ w2).drew)
        obtain ⟨_, z1, _⟩ := hT2.cells
        have z2 : w2.drew.cell? ⟨p, 1, none⟩ = some (.map (some g)) := z1
        have hK : ∀ (d : Array Int) (q : Nat), TbIs (putRow (Value.int .i64) (Sort.ahead w2.drew q) gr 0 d) p (some g) n F ∧ Below W.heap.size W (putRow (Value.int .i64) (Sort.ahead w2.drew q) gr 0 d) := fun d q => by
          have hg3 : w2.grownBy (grow (putRow (Value.int .i64) (Sort.ahead w2 (1 + q)) gr 0 d) #[]) (some gr) := grownBy_sortedI _
          rw [grow_empty] at hg3
          have e9 : Sort.ahead w2.drew q = Sort.ahead w2 (1 + q) := by rw [drew_eq_ahead, ahead_ahead]
          rw [e9]
          have ho3 : Off (fun k => k = gr) w2 (putRow (Value.int .i64) (Sort.ahead w2 (1 + q)) gr 0 d) := ⟨hg3.os, hg3.tape, hg3.output, hg3.size, fun k hk hn => hg3.block k hk (fun e => hn (Option.some.inj e))⟩
          exact ⟨hT2.off ho3 (by omega) (fun k hk e => by cases hk; have e : g = gr := e; omega), HB2.out.trans (ho3.below HB2.out.size (fun k hk => by omega))⟩
        have HK := Lib.hid hK
        have hcl : (Lib.compact S).length ≤ 1000000 := by
          have h1 : (Lib.compact S).length ≤ S.length := by
            unfold Lib.compact Lib.compactUpTo
            rw [List.length_map]
            have := List.length_filter_le (Lib.keeps S.toArray) (List.range S.length)
            rwa [List.length_range] at this
          have := HSL.out
          omega
        have HTW := Lib.hid (comp_tw HSP.out HSS.out)
        unfold Lib.compact at hc0 hcl
        generalize (Lib.compactUpTo S.toArray S.length).length = M at *
        clear hw2 cs hg2 ho2 hT2 hH2 hK
        go_wp2_with fail
        go_region_held3 (fun w => w.cell? ⟨p, 1, none⟩ = some (.map (some g)) ∧ ∀ ty : TypeId, (Builtin.len_ #[54] ty #[.map (some g)]).run Try.prog w = .ok (.int .i64 (F.length : Int)) w) (first | exact ⟨z2, hlr1⟩ | exact ⟨z1, hlr⟩ | exact ⟨hk3.1.cells.2.1, len_run hk3.1⟩) (first | ((with_reducible refine hc0.mono ?_); rintro en w3 ⟨rfl, q, hw3⟩; have hk3 : TbIs w3 p (some g) n F ∧ Below W.heap.size W w3 := (by rw [hw3]; exact HK.out _ q); clear hw3))
        all_goals
          go_wp2_with fail
          go_ret
          exact ⟨by rw [← HTW.out]; rfl, hk3.2⟩
    · intro x c1 c2 kl y yp w1 cnt1 hkl hlk hRv hat hrg1 hlt hg1 hsz1 hen
      obtain ⟨hkle, hxs⟩ := key_lit x kl hkl
      obtain ⟨e, hfo, hce⟩ := entry_topic (c := (c1, c2)) (y := (y, yp)) hkle hRv hat
      injection hce with hc1 hc2
      subst hc1 hc2 hkle
      obtain ⟨hfm, hfn⟩ := ofN_mem hfo
      have HW1 := Lib.hid (HI.out.bel.grown hg1 HI.out.bel.size (fun k q => by injection q with q; omega))
      have hrow1 := HR.out.kept hg1 (by
        have := row_ne_iter HR.out hrg
        exact .inr this.symm)
      have HRW := Lib.hid hrow1
      have HPS : Hid ((L ++ [e.id]).Perm ((gone (fun z => left z && !z.sameKey (.string x.data.toList)) F).map (·.id))) := Lib.hid (by
        rw [← hfn]
        have h1 := (gone_step H.out.rise hfm (by rw [hfn]; exact hlk)).map (·.id)
        rw [List.map_append] at h1
        exact (HPM.out.append_right _).trans h1.symm)
      have HLL : Hid (L.length ≤ 1000000) := Lib.hid (by
        have h1 := HPM.out.length_eq
        rw [List.length_map] at h1
        have h2 : (gone left F).length ≤ F.length := List.length_filter_le _ _
        omega)
      unfold mkE at hen ⊢
      clear hRv hat hrow1 hkl hfo hfm hfn hlk hsz1
      have hrlt := hrg1.lt
      have hrow2 := own_below (own_below HRW.out ((Below.refl w1.heap.size w1).alloc (Nat.le_refl _) (.cells #[.int .i64 e.id, .int .i64 e.parts] 59))) ((Below.refl _ _).alloc (Nat.le_refl _) (.cells #[.int .i64 e.id] 3))
      have hnews := news_at (Box.new (w1.alloc (.cells #[.int .i64 e.id, .int .i64 e.parts] 59)) 3 #[.int .i64 e.id])
      rw [World.size_alloc] at hnews
      have hsz2 : W.heap.size + 1 ≤ ((w1.alloc (.cells #[.int .i64 e.id, .int .i64 e.parts] 59)).alloc (.cells #[.int .i64 e.id] 3)).heap.size := by simp; omega
      have hLL := HLL.out
      go_wp2_with (at_builtin; refine wpList_append_own_at _ rfl _ _ 98 rfl (W.heap.size + 1) 3 i0 (.int .i64 0) 1 8 Try.underlying98 hi hz0 hz1 hz2 rfl (by decide) (.slice A L.length c) L.length (L.map (Value.int .i64)) rfl hrow2 ⟨w1.heap.size + 1, 0, none⟩ 1 1 [.int .i64 e.id] rfl rfl hnews (by simp [Value.oneCell']) (by unfold maxLen; omega) (by omega) hsz2 ?_)
      intro v' w5 hown' hgrow _ _
      have ho5 : Off (fun k => W.heap.size + 1 ≤ k) w1 w5 := (((Off.refl _ w1).alloc _).alloc _).grown hgrow (fun k hk _ => (HRW.out.lt k hk).1)
      have hrg5 := ranges_off hrg1 ho5 (by omega) (by omega)
      have HB5 := HW1.out.trans (ho5.below HW1.out.size fun k hk => by omega)
      clear hrow2 hnews hgrow
      go_wp2_with fail
      go_roundw
      case rel => exact ⟨_, cnt1, hrg5, ⟨L ++ [e.id], by simpa using hown', HPS.out⟩, HB5⟩
      case measure => rw [hrg5.left_eq, hrg.left_eq]; exact hlt
set_option maxHeartbeats 8000000 in
set_option maxRecDepth 100000 in
theorem twice_none (p : Nat) (n : Int) (W : World) (h : TbIs W p none n []) :
    Calls Try.prog 41 #[dp p] W (Good W (.bool (twB []))) := by
  have hT1 := h.later (w' := W.alloc (.mapIter none 0 #[] 0)) ((Below.refl _ W).alloc (Nat.le_refl _) _)
  have hlr := len_run hT1
  have hlr1 := len_run (hT1.later (w' := (W.alloc (.mapIter none 0 #[] 0)).drew) (Below.refl _ _).drew)
  obtain ⟨_, z1, _⟩ := hT1.cells
  have z2 : (W.alloc (.mapIter none 0 #[] 0)).drew.cell? ⟨p, 1, none⟩ = some (.map none) := z1
  obtain ⟨y0, y1, hpl⟩ := h.cells
  have cs := fun w => Try.slices_Sort_int_none none 0 w
  have cc := fun w => Try.slices_Compact_int_empty none 0 w
  have hrg := run_range_nilMap (P := Try.prog) W 54 9 59 Try.underlying54
  have hnx : ∀ ty, (Instr.next (.pointer (some ⟨W.heap.size, 0, none⟩)) false ty).run Try.prog (W.alloc (.mapIter none 0 #[] 0)) = _ := fun ty => run_next_nilMap _ ty 0 0 #[]
  unfold dp
  clear h hT1
  go_enter Try.func41, Try.ntmps41
  go_wp2_with fail
  refine wp_loop_rounds 1 ?_
  rw [rounds_succ]
  go_wp2_with fail
  with_reducible refine (cs _).mono ?_
  rintro en w2 ⟨rfl, hw2⟩
  have hw2' := hw2.symm
  subst hw2'
  go_wp2_with fail
  go_region_held3 (fun w => w.cell? ⟨p, 1, none⟩ = some (.map none) ∧ ∀ ty : TypeId, (Builtin.len_ #[54] ty #[.map none]).run Try.prog w = .ok (.int .i64 (([] : List TE).length : Int)) w) (first | exact ⟨z2, hlr1⟩ | exact ⟨z1, hlr⟩) (first | ((with_reducible refine (cc _).mono ?_); rintro en w3 ⟨rfl, hw3⟩; have hw3' := hw3.symm; subst hw3'))
  all_goals
    go_wp2_with fail
    go_ret
    exact ⟨rfl, ((Below.refl _ W).alloc (Nat.le_refl _) _).drew⟩
theorem twice_c (p : Nat) (m : Option Nat) (n : Int) (F : List TE) (W : World) (h : TbIs W p m n F) (hlen : F.length ≤ 1000000) :
    Calls Try.prog 41 #[dp p] W (Good W (.bool (twB F))) := by
  rcases h.map with ⟨rfl, rfl⟩ | ⟨g, rfl, h2⟩
  · exact twice_none p n W h
  · exact twice_map p g n F W h h2 hlen
end Go.Proofs.Ytnpfakjgocnkbaa
