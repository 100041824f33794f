/- The document's disk: Rename. No condition. -/
import Derived.Test.YtpdimmkacjilgaaKdApp2
namespace Go.Proofs.Ytpdimmkacjilgaa
open Go.RowKit Go.Maps Go.ChangeMaps Go.WideMaps Go.Shelf
set_option linter.unusedVariables false
attribute [local go_sem ↓] Go.wp_at_zero Go.wp_at_succ
theorem delL_none {L : List AF} {n : List UInt8} (h : findL L n = none) : delL L n = L := by
  unfold delL
  rw [List.filter_eq_self]
  intro x hx
  have := find_none_names h x hx
  simpa using this
theorem delL_comm (L : List AF) (n o : List UInt8) : delL (delL L o) n = delL (delL L n) o := by
  unfold delL
  rw [List.filter_filter, List.filter_filter]
  refine List.filter_congr fun x _ => ?_
  rw [Bool.and_comm]
theorem ins_del_same {y : AF} : ∀ {L : List AF}, L.Pairwise (fun a b => bytesBefore a.1 b.1 = true) → y ∈ L → insL y (delL L y.1) = L
  | [], _, h => by cases h
  | x :: r, hp, hm => by
    obtain ⟨p1, p2⟩ := List.pairwise_cons.1 hp
    unfold delL
    rw [List.filter_cons]
    rcases List.mem_cons.1 hm with rfl | hm'
    · have hr : r.filter (fun x => !(x.1 == y.1)) = r := by
        rw [List.filter_eq_self]
        intro z hz
        have := p1 z hz
        simp only [Bool.not_eq_true', beq_eq_false_iff_ne]
        intro e
        rw [e, bytes_irrefl] at this
        cases this
      simp only [beq_self_eq_true, Bool.not_true, Bool.false_eq_true, if_false]
      rw [hr]
      exact insL_low fun z hz => p1 z hz
    · have hlt := p1 y hm'
      have hne : (x.1 == y.1) = false := by
        rw [beq_eq_false_iff_ne]
        intro e
        rw [e, bytes_irrefl] at hlt
        cases hlt
      have ih := ins_del_same p2 hm'
      unfold delL at ih
      rw [hne]
      simp only [Bool.not_false, if_true]
      unfold insL
      rw [if_neg (by rw [bytes_asymm hlt]; simp), ih]
/-- What the document's rename makes of the list is what ours makes of it. -/
theorem ren_list {L : List AF} (hs : L.Pairwise fun a b => bytesBefore a.1 b.1 = true) {x : AF} (hx : x ∈ L) {n o : ByteArray} (ho : x.1 = o.data.toList) :
    insL (n.data.toList, x.2.1, x.2.2) (delL (delL L o.data.toList) n.data.toList) = if n = o then L else insL (n.data.toList, x.2.1, x.2.2) (delL (delL L n.data.toList) o.data.toList) := by
  by_cases h : n = o
  · subst h
    rw [if_pos rfl]
    have e : delL (delL L n.data.toList) n.data.toList = delL L n.data.toList := by unfold delL; rw [List.filter_filter]; simp
    have h2 := ins_del_same hs hx
    rw [ho] at h2
    rw [e]
    have e2 : x = (n.data.toList, x.2.1, x.2.2) := by rw [← ho]
    rw [← e2]
    exact h2
  · rw [if_neg h, delL_comm]
set_option maxHeartbeats 8000000 in
set_option maxRecDepth 100000 in
theorem kren_c (q : Nat) (a : Ab) (S : Nat → Prop) (o n : ByteArray) (W : World) (h : KIs W q a S) (ha : AbOk a) (hlen : a.L.length ≤ 1000000) (hn : n.size ≤ 140737488351232) :
    Calls Try.prog 30 #[dp q, .string o, .string n] W (KDoes W q S (.int .i64 (renE a o n)) (renA a o n)) := by
  have hI := h
  obtain ⟨v, h, hq, hvS⟩ := h
  have c1 := kup_c q a v W h ha
  have c2 := kfind_c q a v o W h hlen
  have c3 := knamed_c n hn W
  unfold renE renA
  unfold dp at *
  cases hu : upA a with
  | false =>
    rw [hu] at c1
    go_enter Try.func30, Try.ntmps30
    go_wp2_with fail
    (with_reducible refine c1.mono ?_)
    rintro en w1 ⟨rfl, rfl⟩
    go_wp2
    go_ret
    exact kdoes_tells hI ⟨rfl, rfl⟩
  | true =>
    rw [hu] at c1
    rcases kidx_spec o.data.toList a.L 0 with ⟨h1, h2⟩ | ⟨i, x, h1, h2, h3, h4⟩
    · rw [h1] at c2
      rw [h2]
      go_enter Try.func30, Try.ntmps30
      go_wp2_with fail
      (with_reducible refine c1.mono ?_)
      rintro en w1 ⟨rfl, hw⟩
      have hw' := hw.symm
      subst hw'
      go_wp2_with fail
      (with_reducible refine c2.mono ?_)
      rintro en w1 ⟨rfl, rfl⟩
      go_wp2
      go_ret
      exact kdoes_tells hI ⟨rfl, rfl⟩
    · rw [h1, Nat.zero_add] at c2
      rw [h3]
      cases hnb : nameB n with
      | false =>
        rw [hnb] at c3
        go_enter Try.func30, Try.ntmps30
        go_wp2_with fail
        (with_reducible refine c1.mono ?_)
        rintro en w1 ⟨rfl, hw⟩
        have hw' := hw.symm
        subst hw'
        go_wp2_with fail
        (with_reducible refine c2.mono ?_)
        rintro en w1 ⟨rfl, hw⟩
        have hw' := hw.symm
        subst hw'
        go_wp2_with fail
        (with_reducible refine c3.mono ?_)
        rintro en w1 ⟨rfl, rfl⟩
        go_wp2
        go_ret
        exact kdoes_tells hI ⟨rfl, rfl⟩
      | true =>
        rw [hnb] at c3
        obtain ⟨nb, cap, rfl⟩ := h.slice
        obtain ⟨g, rfl, b0, b1, b2, b3⟩ := h.file h2
        have y1 : W.cell? ⟨q, 1, none⟩ = some (.slice (some ⟨g, 0, none⟩) a.L.length cap) := (h.box.cell 1).trans rfl
        have hil : i < a.L.length := (List.getElem?_eq_some_iff.1 h2).1
        have hxm : x ∈ a.L := List.mem_of_getElem? h2
        have hrl := ren_list ha.sorted hxm (n := n) (o := o) h4
        have hdel := delL_at ha.sorted h2
        rw [h4] at hdel
        have HR := Lib.hid hdel
        simp only [Option.isSome_some, if_true]
        rw [← hrl]
        clear hrl hdel h1 h3
        go_enter Try.func30, Try.ntmps30
        have H4 := Lib.hid h4
        clear h4
        go_wp2_with fail
        (with_reducible refine c1.mono ?_)
        rintro en w1 ⟨rfl, hw⟩
        have hw' := hw.symm
        subst hw'
        go_wp2_with fail
        (with_reducible refine c2.mono ?_)
        rintro en w1 ⟨rfl, hw⟩
        have hw' := hw.symm
        subst hw'
        go_wp2_with fail
        (with_reducible refine c3.mono ?_)
        rintro en w1 ⟨rfl, hw⟩
        have hw' := hw.symm
        subst hw'
        go_wp2_with fail
        have hb1 : Below W.heap.size W (W.alloc (.cells #[.string ⟨x.1.toArray⟩, .string ⟨x.2.1.toArray⟩, .int .i64 (x.2.2 : Int)] 63)) := (Below.refl _ W).alloc (Nat.le_refl _) _
        have hB1 := Box.new W 63 #[.string ⟨x.1.toArray⟩, .string ⟨x.2.1.toArray⟩, .int .i64 (x.2.2 : Int)]
        have hI1 : KIs (W.alloc (.cells #[.string ⟨x.1.toArray⟩, .string ⟨x.2.1.toArray⟩, .int .i64 (x.2.2 : Int)] 63)) q a (fun k => S k ∧ k < W.heap.size) := hI.tight.off (Off.of_below (fun _ => False) hb1) (fun _ _ x => x)
        have hcut := kcutf_c q a _ _ hI1 hlen i hil
        unfold dp at hcut
        have HB1 := Lib.hid (And.intro hb1 hB1)
        clear hb1 hB1 hI1 y1 b0 b1 b2 b3 h
        generalize (W.alloc (.cells #[.string ⟨x.1.toArray⟩, .string ⟨x.2.1.toArray⟩, .int .i64 (x.2.2 : Int)] 63)) = W1 at *
        (with_reducible refine hcut.mono ?_)
        rintro en w2 ⟨rfl, hI2, ho2⟩
        have hlt1 : W.heap.size < W1.heap.size := HB1.out.2.lt
        rw [← HR.out] at hI2
        have hB2 : Box w2 W.heap.size 63 #[.string ⟨x.1.toArray⟩, .string ⟨x.2.1.toArray⟩, .int .i64 (x.2.2 : Int)] := HB1.out.2.off ho2 (fun hk => by omega)
        have hoW : Off (fun k => S k ∧ k < W.heap.size) W w2 := (Off.of_below _ HB1.out.1).trans ho2 fun _ _ x => x
        have hl1 : (delL a.L o.data.toList).length ≤ 1000000 := by
          have := List.length_filter_le (fun x : AF => !(x.1 == o.data.toList)) a.L
          unfold delL
          omega
        have hs1 : (delL a.L o.data.toList).Pairwise fun x y => bytesBefore x.1 y.1 = true := ha.sorted.sublist List.filter_sublist
        obtain ⟨v2, hk2, hq2, hv2⟩ := hI2
        have cf := kfind_c q _ v2 n w2 hk2 hl1
        have hI2 : KIs w2 q { a with L := delL a.L o.data.toList } (fun k => (S k ∧ k < W.heap.size) ∨ W1.heap.size ≤ k) := ⟨v2, hk2, hq2, hv2⟩
        have HI2 := Lib.hid hI2
        have HO2 := Lib.hid hoW
        have HB2 := Lib.hid hB2
        clear hk2 hq2 hv2 hI2 hoW hB2 ho2
        unfold dp at cf
        simp only at cf
        obtain ⟨ki, hki⟩ : ∃ ki, kidx n.data.toList (delL a.L o.data.toList) 0 = ki := ⟨_, rfl⟩
        rw [hki] at cf
        have HKI := Lib.hid hki
        clear hki
        go_wp2_with fail
        (with_reducible refine cf.mono ?_)
        rintro en w2' ⟨rfl, hw⟩
        have hw' := hw.symm
        subst hw'
        clear hw cf
        go_upto_if 35 with fail
        go_cut [] (fun w => KIs w q { a with L := delL (delL a.L o.data.toList) n.data.toList } (fun k => (S k ∧ k < W.heap.size) ∨ W.heap.size < k) ∧ Box w W.heap.size 63 #[.string ⟨x.1.toArray⟩, .string ⟨x.2.1.toArray⟩, .int .i64 (x.2.2 : Int)] ∧ Off (fun k => S k ∧ k < W.heap.size) W w)
        case first =>
          rcases kidx_spec n.data.toList (delL a.L o.data.toList) 0 with ⟨g1, g2⟩ | ⟨j, y, g1, g2, g3, g4⟩
          · have HG := Lib.hid g2
            have hkn : ki = -1 := by rw [← HKI.out]; exact g1
            have hkn2 : ki < 0 := by omega
            have hkn3 : decide (0 ≤ ki) = false := decide_eq_false (by omega)
            clear g1 g2 hkn
            go_wp2_with fail
            go_meet
            refine ⟨?_, HB2.out, HO2.out⟩
            rw [delL_none HG.out]
            exact HI2.out.mono fun k hk => hk.imp id (fun hk => by omega)
          · have hjl : j < (delL a.L o.data.toList).length := (List.getElem?_eq_some_iff.1 g2).1
            have hc2 := kcutf_c q _ _ _ HI2.out hl1 j hjl
            have hd2 := delL_at hs1 g2
            rw [g4] at hd2
            have HD := Lib.hid hd2
            unfold dp at hc2
            simp only at hc2
            have hkj : ki = (j : Int) := by rw [← HKI.out, g1, Nat.zero_add]
            rw [← hkj] at hc2
            have hj0 : (0 : Int) ≤ ki := by omega
            clear g1 g2 g3 g4 hd2 hkj
            go_wp2_with fail
            (with_reducible refine hc2.mono ?_)
            rintro en w3 ⟨rfl, hI3, ho3⟩
            have hs12 := HO2.out.size
            have hlt2 : W.heap.size < w2.heap.size := HB2.out.lt
            have hres : KIs w3 q { a with L := delL (delL a.L o.data.toList) n.data.toList } (fun k => (S k ∧ k < W.heap.size) ∨ W.heap.size < k) ∧ Box w3 W.heap.size 63 #[.string ⟨x.1.toArray⟩, .string ⟨x.2.1.toArray⟩, .int .i64 (x.2.2 : Int)] ∧ Off (fun k => S k ∧ k < W.heap.size) W w3 := by
              refine ⟨?_, HB2.out.off ho3 (fun hk => by rcases hk with hk | hk <;> omega), HO2.out.trans ho3 fun k hk hx => ?_⟩
              · rw [HD.out]
                exact hI3.mono fun k hk => by
                  rcases hk with (hk | hk) | hk
                  · exact .inl hk
                  · exact .inr (by omega)
                  · exact .inr (by omega)
              · rcases hx with hx | hx
                · exact hx
                · omega
            have HRES := Lib.hid hres
            clear hres hI3 ho3
            go_wp2_with fail
            go_meet
            exact HRES.out
        case rest =>
          obtain ⟨hI4, hB4, ho4⟩ := hcut
          have z0 : wc.frozen? ⟨W.heap.size, 0, none⟩ = false := hB4.frozen 0
          have x0 : wc.cell? ⟨W.heap.size, 0, none⟩ = some (.string ⟨x.1.toArray⟩) := (hB4.cell 0).trans rfl
          have hB5 : Box (wc.setCell ⟨W.heap.size, 0, none⟩ (.string n)) W.heap.size 63 #[.string n, .string ⟨x.2.1.toArray⟩, .int .i64 (x.2.2 : Int)] := hB4.set 0 (.string n)
          have hI5 : KIs (wc.setCell ⟨W.heap.size, 0, none⟩ (.string n)) q { a with L := delL (delL a.L o.data.toList) n.data.toList } (fun k => (S k ∧ k < W.heap.size) ∨ W.heap.size < k) := hI4.off (Off.one wc ⟨W.heap.size, 0, none⟩ _) (fun k hk e => by
            have e' : k = W.heap.size := e
            rcases hk with hk | hk <;> omega)
          have ho5 : Off (fun k => S k ∧ k < W.heap.size) W (wc.setCell ⟨W.heap.size, 0, none⟩ (.string n)) := ho4.set (.inr (Nat.le_refl _)) _
          have hl2 : (delL (delL a.L o.data.toList) n.data.toList).length ≤ 1000000 := by
            have := List.length_filter_le (fun x : AF => !(x.1 == n.data.toList)) (delL a.L o.data.toList)
            show (List.filter _ _).length ≤ _
            omega
          have hnw : ∀ z ∈ delL (delL a.L o.data.toList) n.data.toList, z.1 ≠ n.data.toList := fun z hz => by
            have := (List.mem_filter.1 hz).2
            simpa using this
          have hput := kput_c q _ _ _ hI5 hl2 n ⟨x.2.1.toArray⟩ x.2.2 hnw
          unfold dp at hput
          simp only at hput
          have d0 := (hB5.cell 0).trans rfl
          have d1 := (hB5.cell 1).trans rfl
          have d2 := (hB5.cell 2).trans rfl
          simp only [List.getElem?_toArray, List.getElem?_cons_zero, List.getElem?_cons_succ] at d0 d1 d2
          have HO5 := Lib.hid ho5
          have HH4 := Lib.hid (And.intro hI4 ho4)
          clear hB4 hI4 ho4 hI5 ho5 hB5 hcut
          go_wp2_with fail
          (with_reducible refine hput.mono ?_)
          rintro en w6 ⟨rfl, ⟨v6, hk6, hq6, hv6⟩, ho6⟩
          have hch := kchg hk6 ha hu
          unfold dp at hch
          simp only at hch
          have HV := Lib.hid (And.intro hq6 (And.intro hv6 ho6))
          clear hk6 hq6 hv6 ho6
          go_wp2_with fail
          (with_reducible refine hch.mono ?_)
          rintro en w7 ⟨rfl, hk7, ho7⟩
          go_wp2
          go_ret
          have hszz := HO5.out.size
          refine ⟨rfl, ⟨v6, hk7, .inl hq, fun k hk => ?_⟩, ((HO5.out.trans HV.out.2.2 fun k hk hx => ?_).mono fun k _ hk => hk.1).trans ho7 fun k _ e => by rw [e]; exact hq⟩
          · rcases HV.out.2.1 k hk with (hx | hx) | hx
            · exact .inl hx.1
            · exact .inr (by omega)
            · exact .inr (by omega)
          · rcases hx with hx | hx
            · exact hx
            · omega
end Go.Proofs.Ytpdimmkacjilgaa
