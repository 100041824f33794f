/- The document's disk: Append. No condition. -/
import Derived.Test.YtpdimmkacjilgaaKdApp
namespace Go.Proofs.Ytpdimmkacjilgaa
open Go.RowKit Go.Maps Go.ChangeMaps Go.WideMaps Go.Shelf
set_option linter.unusedVariables false
attribute [local go_sem ↓] Go.wp_at_zero Go.wp_at_succ
theorem find_none_names {L : List AF} {n : List UInt8} (h : findL L n = none) : ∀ x ∈ L, x.1 ≠ n := fun x hx => by
  have := List.find?_eq_none.1 h x hx
  simpa using this
set_option maxHeartbeats 8000000 in
set_option maxRecDepth 100000 in
theorem kapp_c (q : Nat) (a : Ab) (S : Nat → Prop) (n s : ByteArray) (W : World) (h : KIs W q a S) (ha : AbOk a) (hlen : a.L.length ≤ 1000000) (hn : n.size ≤ 140737488351232) (hs : s.size ≤ 140737488351232) :
    Calls Try.prog 26 #[dp q, .string n, .string s] W (KDoes W q S (.int .i64 (appE a n s)) (appA a n s)) := by
  have hI := h
  obtain ⟨v, h, hq, hvS⟩ := h
  have c1 := kup_c q a v W h ha
  have c2 := knamed_c n hn W
  have hdr : KAt W.drew q a v := h.later (Below.refl _ _).drew
  have c3 := kused_c q a v W.drew hdr ha hlen
  have c4 := kfind_c q a v n W.drew hdr hlen
  have y0 : W.cell? ⟨q, 0, none⟩ = some (.int .i64 a.room) := (h.box.cell 0).trans rfl
  have hId : KIs W.drew q a S := ⟨v, hdr, hq, hvS⟩
  unfold dp at *
  cases hu : upA a with
  | false =>
    rw [hu] at c1
    have e : appE a n s = 7 := by unfold appE; rw [hu]; rfl
    rw [show appA a n s = a by unfold appA; rw [e]; rfl, e]
    go_enter Try.func26, Try.ntmps26
    go_wp2_with fail
    (with_reducible refine c1.mono ?_)
    rintro en w1 ⟨rfl, rfl⟩
    go_wp2
    go_ret
    exact kdoes_tells hI ⟨rfl, rfl⟩
  | true =>
    rw [hu] at c1
    cases hnb : nameB n with
    | false =>
      rw [hnb] at c2
      have e : appE a n s = 1 := by unfold appE; rw [hu, hnb]; rfl
      rw [show appA a n s = a by unfold appA; rw [e]; rfl, e]
      go_enter Try.func26, Try.ntmps26
      go_wp2_with fail
      (with_reducible refine c1.mono ?_)
      rintro en w1 ⟨rfl, hw⟩
      have hw' := hw.symm
      subst hw'
      go_wp2_with fail
      (with_reducible refine c2.mono ?_)
      rintro en w1 ⟨rfl, rfl⟩
      go_wp2
      go_ret
      exact kdoes_tells hI ⟨rfl, rfl⟩
    | true =>
      rw [hnb] at c2
      have hto := ha.tot
      have hro := ha.room
      have hw1 : IntKind.i64.wrap ((totL a.L : Int) + (s.size : Int)) = (totL a.L : Int) + (s.size : Int) := IntWalk.i64_in _ (by omega)
      by_cases hsz : a.room - (totL a.L : Int) < (s.size : Int)
      · have e : appE a n s = 5 := by unfold appE; rw [hu, hnb, if_pos rfl, if_pos rfl, if_pos hsz]
        rw [show appA a n s = a by unfold appA; rw [e]; rfl, e]
        have hsz' : a.room < (totL a.L : Int) + (s.size : Int) := by omega
        go_enter Try.func26, Try.ntmps26
        go_wp2_with fail
        (with_reducible refine c1.mono ?_)
        rintro en w1 ⟨rfl, hw⟩
        have hw' := hw.symm
        subst hw'
        go_wp2_with fail
        (with_reducible refine c2.mono ?_)
        rintro en w1 ⟨rfl, hw⟩
        have hw' := hw.symm
        subst hw'
        go_wp2_with fail
        go_region_held3 (fun w => w.cell? ⟨q, 0, none⟩ = some (.int .i64 a.room)) (exact y0) (first | ((with_reducible refine c3.mono ?_); rintro en w1 ⟨rfl, hw⟩; (have hw' := hw.symm; subst hw')))
        go_wp2
        go_ret
        exact ⟨rfl, hId.mono fun k hk => .inl hk, (Off.refl S W).drew⟩
      · have e : appE a n s = 0 := by unfold appE; rw [hu, hnb, if_pos rfl, if_pos rfl, if_neg hsz]
        have ea : appA a n s = { chgA a with L := match findL a.L n.data.toList with
                       | some x => setL a.L n.data.toList (n.data.toList, x.2.1 ++ s.data.toList, x.2.2)
                       | none => insL (n.data.toList, s.data.toList, 0) a.L } := by unfold appA; rw [if_pos e]; rfl
        rw [ea, e]
        have hsz' : ¬ a.room < (totL a.L : Int) + (s.size : Int) := by omega
        have hs4 : s.size ≤ 4194304 := by omega
        clear e ea
        rcases kidx_spec n.data.toList a.L 0 with ⟨h1, h2⟩ | ⟨i, x, h1, h2, h3, h4⟩
        · rw [h1] at c4
          rw [h2]
          have hput := kput_c q a S W.drew hId hlen n s 0 (find_none_names h2)
          unfold dp at hput
          rw [show ((0 : Nat) : Int) = 0 from rfl] at hput
          go_enter Try.func26, Try.ntmps26
          go_wp2_with fail
          (with_reducible refine c1.mono ?_)
          rintro en w1 ⟨rfl, hw⟩
          have hw' := hw.symm
          subst hw'
          go_wp2_with fail
          (with_reducible refine c2.mono ?_)
          rintro en w1 ⟨rfl, hw⟩
          have hw' := hw.symm
          subst hw'
          go_wp2_with fail
          go_region_held3 (fun w => w.cell? ⟨q, 0, none⟩ = some (.int .i64 a.room)) (exact y0) (first | ((with_reducible refine c3.mono ?_); rintro en w1 ⟨rfl, hw⟩; (have hw' := hw.symm; subst hw')))
          go_wp2_with fail
          (with_reducible refine c4.mono ?_)
          rintro en w1 ⟨rfl, hw⟩
          have hw' := hw.symm
          subst hw'
          go_wp2_with fail
          (with_reducible refine hput.mono ?_)
          rintro en w2 ⟨rfl, ⟨v2, hk2, hq2, hv2⟩, ho2⟩
          have hch := kchg hk2 ha hu
          unfold dp at hch
          go_wp2_with fail
          (with_reducible refine hch.mono ?_)
          rintro en w3 ⟨rfl, hk3, ho3⟩
          go_wp2
          go_ret
          exact ⟨rfl, ⟨v2, hk3, .inl hq, hv2⟩, ((Off.refl S W).drew.trans ho2 fun _ _ x => x).trans ho3 fun k _ e => by rw [e]; exact hq⟩
        · rw [h1, Nat.zero_add] at c4
          rw [h3]
          obtain ⟨nb, cap, rfl⟩ := hdr.slice
          obtain ⟨g, rfl, b0, b1, b2, b3⟩ := hdr.file h2
          have y1 : W.drew.cell? ⟨q, 1, none⟩ = some (.slice (some ⟨g, 0, none⟩) a.L.length cap) := (hdr.box.cell 1).trans rfl
          have hil : i < a.L.length := (List.getElem?_eq_some_iff.1 h2).1
          have hset := setL_set ha.sorted (y := (n.data.toList, x.2.1 ++ s.data.toList, x.2.2)) h2
          rw [h4] at hset
          have HS := Lib.hid (And.intro hset h4)
          obtain ⟨k0, o0⟩ := hdr.set1 h2 (x.2.1 ++ s.data.toList)
          have k1 := k0.later (Below.refl _ _).drew
          have hx : (⟨(x.2.1 ++ s.data.toList).toArray⟩ : ByteArray) = (⟨x.2.1.toArray⟩ : ByteArray) ++ s := by
            apply ByteArray.ext
            apply Array.toList_inj.1
            simp
          rw [hx] at k1 o0
          have hx4 : (⟨x.2.1.toArray⟩ : ByteArray).size ≤ 4194304 := by
            have h5 := totL_take h2
            have h6 := totL_take_le a.L (i + 1)
            show x.2.1.toArray.size ≤ _
            simp
            omega
          have k2 : KAt (W.setCell ⟨g, i * 3 + 1, none⟩ (.string ((⟨x.2.1.toArray⟩ : ByteArray) ++ s))).drew.drew q { a with L := a.L.set i (x.1, x.2.1 ++ s.data.toList, x.2.2) } (.slice (some ⟨g, 0, none⟩) a.L.length cap) := k1
          have hch := kchg k2 ha hu
          have O0 := Lib.hid (show Off (fun k => k = g) W (W.setCell ⟨g, i * 3 + 1, none⟩ (.string ((⟨x.2.1.toArray⟩ : ByteArray) ++ s))).drew.drew from (Off.one W ⟨g, i * 3 + 1, none⟩ _).drew.drew)
          unfold dp at hch
          clear h k0 k1 k2 o0 hset hx hI hId h1 h3
          go_enter Try.func26, Try.ntmps26
          generalize (⟨x.2.1.toArray⟩ : ByteArray) = sx at *
          go_wp2_with fail
          (with_reducible refine c1.mono ?_)
          rintro en w1 ⟨rfl, hw⟩
          have hw' := hw.symm
          subst hw'
          go_wp2_with fail
          (with_reducible refine c2.mono ?_)
          rintro en w1 ⟨rfl, hw⟩
          have hw' := hw.symm
          subst hw'
          go_wp2_with fail
          go_region_held3 (fun w => w.cell? ⟨q, 0, none⟩ = some (.int .i64 a.room)) (exact y0) (first | ((with_reducible refine c3.mono ?_); rintro en w1 ⟨rfl, hw⟩; (have hw' := hw.symm; subst hw')))
          go_wp2_with fail
          (with_reducible refine c4.mono ?_)
          rintro en w1 ⟨rfl, hw⟩
          have hw' := hw.symm
          subst hw'
          clear c1 c2 c3 c4 hdr
          go_upto_region 10 with fail
          go_cut [] (fun w => (W.setCell ⟨g, i * 3 + 1, none⟩ (.string (sx ++ s))).drew.drew = w)
          case first =>
            go_region_with (fail)
            all_goals
              go_wp2_with fail
              go_meet
              exact rfl
          case rest =>
            subst hcut
            go_wp2_with fail
            (with_reducible refine hch.mono ?_)
            rintro en w3 ⟨rfl, hk3, ho3⟩
            go_wp2
            go_ret
            refine ⟨rfl, ⟨_, ?_, .inl hq, fun k hk => .inl (hvS k hk)⟩, ((O0.out.mono fun k _ e => ?_).trans ho3 fun k _ e => ?_)⟩
            · rw [HS.out.1, ← HS.out.2]
              exact hk3
            · exact hvS k (by rw [e]; rfl)
            · rw [e]; exact hq
end Go.Proofs.Ytpdimmkacjilgaa
