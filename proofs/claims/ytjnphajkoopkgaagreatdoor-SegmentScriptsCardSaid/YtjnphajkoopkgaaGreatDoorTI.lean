/- Merged texts. What each proves is told at its head. -/
import Derived.Test.YtjnphajkoopkgaaGreatDoorTH
/- The document's disk: Append. No condition. -/
namespace Go.Proofs.YtjnphajkoopkgaaGreatDoor.Dk.Kd
open Go.RowKit Go.Maps Go.ChangeMaps Go.WideMaps Go.Shelf
set_option linter.unusedVariables false
attribute [local go_sem ↓] Go.wp_at_zero Go.wp_at_succ
theorem find_none_names {L : List AF} {n : List UInt8} (h : findL L n = none) : ∀ x ∈ L, x.1 ≠ n := fun x hx => by
  have := List.find?_eq_none.1 h x hx
  simpa using this
set_option maxHeartbeats 8000000 in
set_option maxRecDepth 100000 in
theorem kapp_c (q : Nat) (a : Ab) (S : Nat → Prop) (n s : ByteArray) (W : World) (h : KIs W q a S) (ha : AbOk a) (hlen : a.L.length ≤ 1000000) (hn : n.size ≤ 140737488351232) (hs : s.size ≤ 140737488351232) :
    Calls Tryz.prog 38 #[dp q, .string n, .string s] W (KDoes W q S (.int .i64 (appE a n s)) (appA a n s)) := by
  have hI := h
  obtain ⟨v, h, hq, hvS⟩ := h
  have c1 := kup_c q a v W h ha
  have c2 := knamed_c n hn W
  have hdr : KAt W.drew q a v := h.later (Below.refl _ _).drew
  have c3 := kused_c q a v W.drew hdr ha hlen
  have c4 := kfind_c q a v n W.drew hdr hlen
  have y0 : W.cell? ⟨q, 0, none⟩ = some (.int .i64 a.room) := (h.box.cell 0).trans rfl
  have hId : KIs W.drew q a S := ⟨v, hdr, hq, hvS⟩
  unfold dp at *
  cases hu : upA a with
  | false =>
    rw [hu] at c1
    have e : appE a n s = 7 := by unfold appE; rw [hu]; rfl
    rw [show appA a n s = a by unfold appA; rw [e]; rfl, e]
    go_enter Tryz.func38, Tryz.ntmps38
    go_wp2_with fail
    (with_reducible refine c1.mono ?_)
    rintro en w1 ⟨rfl, rfl⟩
    go_wp2
    go_ret
    exact kdoes_tells hI ⟨rfl, rfl⟩
  | true =>
    rw [hu] at c1
    cases hnb : nameB n with
    | false =>
      rw [hnb] at c2
      have e : appE a n s = 1 := by unfold appE; rw [hu, hnb]; rfl
      rw [show appA a n s = a by unfold appA; rw [e]; rfl, e]
      go_enter Tryz.func38, Tryz.ntmps38
      go_wp2_with fail
      (with_reducible refine c1.mono ?_)
      rintro en w1 ⟨rfl, hw⟩
      have hw' := hw.symm
      subst hw'
      go_wp2_with fail
      (with_reducible refine c2.mono ?_)
      rintro en w1 ⟨rfl, rfl⟩
      go_wp2
      go_ret
      exact kdoes_tells hI ⟨rfl, rfl⟩
    | true =>
      rw [hnb] at c2
      have hto := ha.tot
      have hro := ha.room
      have hw1 : IntKind.i64.wrap ((totL a.L : Int) + (s.size : Int)) = (totL a.L : Int) + (s.size : Int) := IntWalk.i64_in _ (by omega)
      by_cases hsz : a.room - (totL a.L : Int) < (s.size : Int)
      · have e : appE a n s = 5 := by unfold appE; rw [hu, hnb, if_pos rfl, if_pos rfl, if_pos hsz]
        rw [show appA a n s = a by unfold appA; rw [e]; rfl, e]
        have hsz' : a.room < (totL a.L : Int) + (s.size : Int) := by omega
        go_enter Tryz.func38, Tryz.ntmps38
        go_wp2_with fail
        (with_reducible refine c1.mono ?_)
        rintro en w1 ⟨rfl, hw⟩
        have hw' := hw.symm
        subst hw'
        go_wp2_with fail
        (with_reducible refine c2.mono ?_)
        rintro en w1 ⟨rfl, hw⟩
        have hw' := hw.symm
        subst hw'
        go_wp2_with fail
        go_region_held3 (fun w => w.cell? ⟨q, 0, none⟩ = some (.int .i64 a.room)) (exact y0) (first | ((with_reducible refine c3.mono ?_); rintro en w1 ⟨rfl, hw⟩; (have hw' := hw.symm; subst hw')))
        go_wp2
        go_ret
        exact ⟨rfl, hId.mono fun k hk => .inl hk, (Off.refl S W).drew⟩
      · have e : appE a n s = 0 := by unfold appE; rw [hu, hnb, if_pos rfl, if_pos rfl, if_neg hsz]
        have ea : appA a n s = { chgA a with L := match findL a.L n.data.toList with
                       | some x => setL a.L n.data.toList (n.data.toList, x.2.1 ++ s.data.toList, x.2.2)
                       | none => insL (n.data.toList, s.data.toList, 0) a.L } := by unfold appA; rw [if_pos e]; rfl
        rw [ea, e]
        have hsz' : ¬ a.room < (totL a.L : Int) + (s.size : Int) := by omega
        have hs4 : s.size ≤ 4194304 := by omega
        clear e ea
        rcases kidx_spec n.data.toList a.L 0 with ⟨h1, h2⟩ | ⟨i, x, h1, h2, h3, h4⟩
        · rw [h1] at c4
          rw [h2]
          have hput := kput_c q a S W.drew hId hlen n s 0 (find_none_names h2)
          unfold dp at hput
          rw [show ((0 : Nat) : Int) = 0 from rfl] at hput
          go_enter Tryz.func38, Tryz.ntmps38
          go_wp2_with fail
          (with_reducible refine c1.mono ?_)
          rintro en w1 ⟨rfl, hw⟩
          have hw' := hw.symm
          subst hw'
          go_wp2_with fail
          (with_reducible refine c2.mono ?_)
          rintro en w1 ⟨rfl, hw⟩
          have hw' := hw.symm
          subst hw'
          go_wp2_with fail
          go_region_held3 (fun w => w.cell? ⟨q, 0, none⟩ = some (.int .i64 a.room)) (exact y0) (first | ((with_reducible refine c3.mono ?_); rintro en w1 ⟨rfl, hw⟩; (have hw' := hw.symm; subst hw')))
          go_wp2_with fail
          (with_reducible refine c4.mono ?_)
          rintro en w1 ⟨rfl, hw⟩
          have hw' := hw.symm
          subst hw'
          go_wp2_with fail
          (with_reducible refine hput.mono ?_)
          rintro en w2 ⟨rfl, ⟨v2, hk2, hq2, hv2⟩, ho2⟩
          have hch := kchg hk2 ha hu
          unfold dp at hch
          go_wp2_with fail
          (with_reducible refine hch.mono ?_)
          rintro en w3 ⟨rfl, hk3, ho3⟩
          go_wp2
          go_ret
          exact ⟨rfl, ⟨v2, hk3, .inl hq, hv2⟩, ((Off.refl S W).drew.trans ho2 fun _ _ x => x).trans ho3 fun k _ e => by rw [e]; exact hq⟩
        · rw [h1, Nat.zero_add] at c4
          rw [h3]
          obtain ⟨nb, cap, rfl⟩ := hdr.slice
          obtain ⟨g, rfl, b0, b1, b2, b3⟩ := hdr.file h2
          have y1 : W.drew.cell? ⟨q, 1, none⟩ = some (.slice (some ⟨g, 0, none⟩) a.L.length cap) := (hdr.box.cell 1).trans rfl
          have hil : i < a.L.length := (List.getElem?_eq_some_iff.1 h2).1
          have hset := setL_set ha.sorted (y := (n.data.toList, x.2.1 ++ s.data.toList, x.2.2)) h2
          rw [h4] at hset
          have HS := Lib.hid (And.intro hset h4)
          obtain ⟨k0, o0⟩ := hdr.set1 h2 (x.2.1 ++ s.data.toList)
          have k1 := k0.later (Below.refl _ _).drew
          have hx : (⟨(x.2.1 ++ s.data.toList).toArray⟩ : ByteArray) = (⟨x.2.1.toArray⟩ : ByteArray) ++ s := by
            apply ByteArray.ext
            apply Array.toList_inj.1
            simp
          rw [hx] at k1 o0
          have hx4 : (⟨x.2.1.toArray⟩ : ByteArray).size ≤ 4194304 := by
            have h5 := totL_take h2
            have h6 := totL_take_le a.L (i + 1)
            show x.2.1.toArray.size ≤ _
            simp
            omega
          have k2 : KAt (W.setCell ⟨g, i * 3 + 1, none⟩ (.string ((⟨x.2.1.toArray⟩ : ByteArray) ++ s))).drew.drew q { a with L := a.L.set i (x.1, x.2.1 ++ s.data.toList, x.2.2) } (.slice (some ⟨g, 0, none⟩) a.L.length cap) := k1
          have hch := kchg k2 ha hu
          have O0 := Lib.hid (show Off (fun k => k = g) W (W.setCell ⟨g, i * 3 + 1, none⟩ (.string ((⟨x.2.1.toArray⟩ : ByteArray) ++ s))).drew.drew from (Off.one W ⟨g, i * 3 + 1, none⟩ _).drew.drew)
          unfold dp at hch
          clear h k0 k1 k2 o0 hset hx hI hId h1 h3
          go_enter Tryz.func38, Tryz.ntmps38
          generalize (⟨x.2.1.toArray⟩ : ByteArray) = sx at *
          go_wp2_with fail
          (with_reducible refine c1.mono ?_)
          rintro en w1 ⟨rfl, hw⟩
          have hw' := hw.symm
          subst hw'
          go_wp2_with fail
          (with_reducible refine c2.mono ?_)
          rintro en w1 ⟨rfl, hw⟩
          have hw' := hw.symm
          subst hw'
          go_wp2_with fail
          go_region_held3 (fun w => w.cell? ⟨q, 0, none⟩ = some (.int .i64 a.room)) (exact y0) (first | ((with_reducible refine c3.mono ?_); rintro en w1 ⟨rfl, hw⟩; (have hw' := hw.symm; subst hw')))
          go_wp2_with fail
          (with_reducible refine c4.mono ?_)
          rintro en w1 ⟨rfl, hw⟩
          have hw' := hw.symm
          subst hw'
          clear c1 c2 c3 c4 hdr
          go_upto_region 10 with fail
          go_cut [] (fun w => (W.setCell ⟨g, i * 3 + 1, none⟩ (.string (sx ++ s))).drew.drew = w)
          case first =>
            go_region_with (fail)
            all_goals
              go_wp2_with fail
              go_meet
              exact rfl
          case rest =>
            subst hcut
            go_wp2_with fail
            (with_reducible refine hch.mono ?_)
            rintro en w3 ⟨rfl, hk3, ho3⟩
            go_wp2
            go_ret
            refine ⟨rfl, ⟨_, ?_, .inl hq, fun k hk => .inl (hvS k hk)⟩, ((O0.out.mono fun k _ e => ?_).trans ho3 fun k _ e => ?_)⟩
            · rw [HS.out.1, ← HS.out.2]
              exact hk3
            · exact hvS k (by rw [e]; rfl)
            · rw [e]; exact hq
end Go.Proofs.YtjnphajkoopkgaaGreatDoor.Dk.Kd
/- The document's disk: Crash. No condition. -/
namespace Go.Proofs.YtjnphajkoopkgaaGreatDoor.Dk.Kd
open Go.RowKit Go.Maps Go.ChangeMaps Go.WideMaps Go.Shelf
set_option linter.unusedVariables false
attribute [local go_sem ↓] Go.wp_at_zero Go.wp_at_succ
/-- The state of the loop: j files are done, t torn. -/
def KcAt (W : World) (q : Nat) (a : Ab) (v : Value) (keep : List Int) (j t : Nat) (w : World) : Prop :=
  ∃ G, KAt w q { a with L := G ++ a.L.drop j } v ∧ G.length = j ∧ j ≤ a.L.length ∧ G ++ (tearL keep t (a.L.drop j)).1 = (tearL keep 0 a.L).1 ∧ (tearL keep t (a.L.drop j)).2 = (tearL keep 0 a.L).2 ∧
    Off (fun k => k = q ∨ v.ownBlock = some k) W w ∧ t ≤ j
theorem KcAt.next {W w : World} {q : Nat} {a : Ab} {v : Value} {keep : List Int} {j t : Nat} (h : KcAt W q a v keep j t w) {x : AF} (hx : a.L[j]? = some x) :
    ∃ L', KAt w q { a with L := L' } v ∧ L'[j]? = some x ∧ L'.length = a.L.length ∧ Off (fun k => k = q ∨ v.ownBlock = some k) W w ∧ t ≤ j ∧ (x.2.1.length = x.2.2 → ∀ w', KAt w' q { a with L := L' } v → Off (fun k => k = q ∨ v.ownBlock = some k) W w' → KcAt W q a v keep (j + 1) t w') ∧
      ∀ k, x.2.1.length ≠ x.2.2 → k = x.2.2 + keptOf keep t (x.2.1.length - x.2.2) → ∀ w', KAt w' q { a with L := L'.set j (x.1, x.2.1.take k, k) } v → Off (fun k => k = q ∨ v.ownBlock = some k) W w' → KcAt W q a v keep (j + 1) (t + 1) w' := by
  obtain ⟨G, hK, hG, hj, h1, h2, h3, h4⟩ := h
  obtain ⟨hjl, hxe⟩ := List.getElem?_eq_some_iff.1 hx
  have hd : a.L.drop j = x :: a.L.drop (j + 1) := by rw [List.drop_eq_getElem_cons hjl, hxe]
  rw [hd] at h1 h2
  have hlen : (G ++ a.L.drop j).length = a.L.length := by rw [List.length_append, List.length_drop]; omega
  have hat : (G ++ a.L.drop j)[j]? = some x := by rw [List.getElem?_append_right (by omega), hG, Nat.sub_self, hd]; rfl
  refine ⟨G ++ a.L.drop j, hK, hat, hlen, h3, h4, fun he w' hK' ho => ?_, fun k hne hk w' hK' ho => ?_⟩
  · rw [tearL, if_pos he] at h1 h2
    refine ⟨G ++ [x], ?_, by simp [hG], hjl, ?_, h2, ho, by omega⟩
    · rw [show G ++ [x] ++ a.L.drop (j + 1) = G ++ a.L.drop j by rw [hd]; simp]
      exact hK'
    · rw [← h1]; simp
  · rw [tearL, if_neg hne, ← hk] at h1 h2
    refine ⟨G ++ [(x.1, x.2.1.take k, k)], ?_, by simp [hG], hjl, ?_, h2, ho, by omega⟩
    · rw [show G ++ [(x.1, x.2.1.take k, k)] ++ a.L.drop (j + 1) = (G ++ a.L.drop j).set j (x.1, x.2.1.take k, k) by rw [List.set_append_right _ _ (by omega), hG, Nat.sub_self, hd]; simp]
      exact hK'
    · rw [← h1]; simp
theorem KcAt.drew {W w : World} {q : Nat} {a : Ab} {v : Value} {keep : List Int} {j t : Nat} (h : KcAt W q a v keep j t w) : KcAt W q a v keep j t w.drew := by
  obtain ⟨G, hK, hG, hj, h1, h2, h3, h4⟩ := h
  exact ⟨G, hK.later (Below.refl _ _).drew, hG, hj, h1, h2, h3.drew, h4⟩
theorem kcrash_end {W w : World} {q : Nat} {a : Ab} {S : Nat → Prop} {v : Value} {keep : List Int} {t : Nat} (hq : S q) (hv : ∀ k, v.ownBlock = some k → S k) (h : KcAt W q a v keep a.L.length t w) :
    w.frozen? ⟨q, 2, none⟩ = false ∧ w.cell? ⟨q, 2, none⟩ = some (.int .i64 (fuseOf a)) ∧ KDoes W q S (.int .i64 ((tearL keep 0 a.L).2 : Int)) (crashA a keep) (.returned (.int .i64 (t : Int))) (w.setCell ⟨q, 2, none⟩ (.int .i64 (-1))) := by
  obtain ⟨G, hK, hG, hj, h1, h2, h3, h4⟩ := h
  rw [List.drop_length] at h1 h2 hK
  have e1 : (tearL keep t []).1 = [] := rfl
  have e2 : (tearL keep t []).2 = t := rfl
  rw [e1, List.append_nil] at h1
  rw [e2] at h2
  rw [List.append_nil] at hK
  refine ⟨hK.box.frozen 2, (hK.box.cell 2).trans rfl, by rw [← h2], ⟨v, ⟨?_, ?_⟩, .inl hq, fun k hk => .inl (hv k hk)⟩, (h3.mono fun k _ hk => ?_).set (.inl hq) _⟩
  · exact hK.box.set 2 (.int .i64 (-1))
  · have := own_off hK.row (Off.one w ⟨q, 2, none⟩ (.int .i64 (-1))) (fun k hk e => hK.ne k hk e)
    show World.ownsRow _ 0 120 3 v (tearL keep 0 a.L).1.length (fileCells (tearL keep 0 a.L).1)
    rw [← h1]
    exact this
  · rcases hk with hk | hk
    · rw [hk]; exact hq
    · exact hv k hk
set_option maxHeartbeats 16000000 in
set_option maxRecDepth 100000 in
theorem kcrash_some (q : Nat) (a : Ab) (S : Nat → Prop) (W : World) (nb : Option Addr) (cap : Nat) (h : KAt W q a (.slice nb a.L.length cap)) (hq : S q) (hvS : ∀ k, (Value.slice nb a.L.length cap).ownBlock = some k → S k) (ha : AbOk a) (hlen : a.L.length ≤ 1000000) (ad : Option Addr) (c : Nat) (keep : List Int) (hkl : keep.length ≤ 9223372036854775807) (hk : KeepIn W S ad c keep) :
    Calls Tryz.prog 36 #[dp q, .slice ad keep.length c] W (KDoes W q S (.int .i64 ((tearL keep 0 a.L).2 : Int)) (crashA a keep)) := by
  have ST := Lib.hid (show KcAt W q a (.slice nb a.L.length cap) keep 0 0 W from ⟨[], h, rfl, Nat.zero_le _, rfl, rfl, Off.refl _ _, Nat.le_refl _⟩)
  have HK := Lib.hid hk
  have HA := Lib.hid ha
  obtain ⟨R, hR⟩ : ∃ R, tearL keep 0 a.L = R := ⟨_, rfl⟩
  have HR := Lib.hid hR
  unfold crashA
  rw [hR]
  clear hk h ha hR
  unfold dp
  go_enter Tryz.func36, Tryz.ntmps36
  go_wp2_with fail
  generalize hm : a.L.length = m at *
  go_loopw [5, 6, 7, 8] (fun n i f k wr => ∃ j t : Nat, i = .int .i64 j ∧ n = .int .i64 t ∧ KcAt W q a (.slice nb m cap) keep j t wr) (fun _ i _ _ _ => m - (intOf i).toNat)
  case atStart => exact ⟨0, 0, rfl, rfl, ST.out⟩
  case round =>
    obtain ⟨j, t, rfl, rfl, hC⟩ := hrel
    have hjm : j ≤ m := by
      obtain ⟨G, _, _, hj, _⟩ := hC
      omega
    by_cases hjl : j < m
    · obtain ⟨x, hx⟩ : ∃ x, a.L[j]? = some x := ⟨_, List.getElem?_eq_getElem (by omega)⟩
      obtain ⟨L', hK, hx', hL', hoff, htj, hskip, htear⟩ := hC.next hx
      obtain ⟨g, rfl, c0, c1, c2, c3⟩ := hK.file hx'
      have y1 : wr.cell? ⟨q, 1, none⟩ = some (.slice (some ⟨g, 0, none⟩) m cap) := (hK.box.cell 1).trans rfl
      have hea := HA.out.each x (List.mem_of_getElem? hx)
      have hx4 : x.2.1.length ≤ 4194304 := by
        have h5 := totL_take hx
        have h6 := totL_take_le a.L (j + 1)
        have h7 := HA.out.tot
        have h8 := HA.out.room
        omega
      have hji : (j : Int) < (m : Int) := by omega
      have hsxz : (⟨x.2.1.toArray⟩ : ByteArray).size = x.2.1.length := by show x.2.1.toArray.size = _; simp
      have hsx0 : ∀ k, (⟨(x.2.1.take k).toArray⟩ : ByteArray) = (⟨x.2.1.toArray⟩ : ByteArray).extract 0 k := fun k => by
        apply ByteArray.ext
        apply Array.toList_inj.1
        simp
      have HC := Lib.hid (And.intro hskip htear)
      have HO := Lib.hid hoff
      have hgq : g ≠ q := hK.ne g rfl
      have hgl : g < wr.heap.size := (hK.row.lt g rfl).2
      have hql : q < wr.heap.size := hK.box.lt
      have HKK := Lib.hid hK
      clear hC hskip htear hoff hK
      generalize (⟨x.2.1.toArray⟩ : ByteArray) = sx at *
      generalize (⟨x.1.toArray⟩ : ByteArray) = nx at *
      have hbx := Box.new wr 120 #[.string nx, .string sx, .int .i64 (x.2.2 : Int)]
      have hKw := HKK.out.later ((Below.refl wr.heap.size wr).alloc (Nat.le_refl _) (.cells #[.string nx, .string sx, .int .i64 (x.2.2 : Int)] 120))
      have hof0 : Off (fun k => k = q ∨ (Value.slice (some ⟨g, 0, none⟩) m cap).ownBlock = some k) W (wr.alloc (.cells #[.string nx, .string sx, .int .i64 (x.2.2 : Int)] 120)) := HO.out.alloc _
      by_cases hwt : x.2.1.length = x.2.2
      · have HN := Lib.hid (HC.out.1 hwt _ hKw hof0)
        have hwi : (sx.size : Int) = (x.2.2 : Int) := by omega
        clear hKw hof0 hbx
        go_wp2_with fail
        go_roundw
        case rel => exact ⟨j + 1, t, by go_num, rfl, HN.out⟩
        case measure => simp [intOf]; omega
      · have hwi : ((sx.size : Int) == (x.2.2 : Int)) = false := by rw [beq_eq_false_iff_ne]; omega
        have hwi2 : ¬ (sx.size : Int) = (x.2.2 : Int) := by omega
        obtain ⟨kt, hkt⟩ : ∃ kt, kt = keptOf keep t (x.2.1.length - x.2.2) := ⟨_, rfl⟩
        have hkl2 : kt ≤ x.2.1.length - x.2.2 := by rw [hkt]; exact keptOf_le _ _ _
        have xk : ∀ w', Off (fun k => k = g) wr w' → w'.heap.size = wr.heap.size → (w'.alloc (.cells #[.string nx, .string sx, .int .i64 (x.2.2 : Int)] 120)).cell? ⟨q, 1, none⟩ = some (.slice (some ⟨g, 0, none⟩) m cap) ∧ (w'.alloc (.cells #[.string nx, .string sx, .int .i64 (x.2.2 : Int)] 120)).cell? ⟨wr.heap.size, 1, none⟩ = some (.string sx) ∧ (w'.alloc (.cells #[.string nx, .string sx, .int .i64 (x.2.2 : Int)] 120)).cell? ⟨wr.heap.size, 2, none⟩ = some (.int .i64 (x.2.2 : Int)) := fun w' ho hsz => by
          have b1 := Box.new w' 120 #[.string nx, .string sx, .int .i64 (x.2.2 : Int)]
          rw [hsz] at b1
          have b2 := (HKK.out.box.off ho (fun e => hgq e.symm)).alloc (.cells #[.string nx, .string sx, .int .i64 (x.2.2 : Int)] 120)
          exact ⟨(b2.cell 1).trans rfl, (b1.cell 1).trans rfl, (b1.cell 2).trans rfl⟩
        obtain ⟨u1, u2, u3⟩ := xk wr (Off.refl _ _) rfl
        have XK := Lib.hid xk
        obtain ⟨z, hz⟩ : ∃ z, x.2.2 + kt = z := ⟨_, rfl⟩
        have hsx := hsx0 z
        have HS2 := Lib.hid (And.intro hwt hkt)
        have hw2 : IntKind.i64.wrap ((x.2.2 : Int) + (kt : Int)) = (z : Int) := by rw [IntWalk.i64_in _ (by omega)]; omega
        have hw3 : IntKind.i64.wrap ((t : Int) + 1) = ((t + 1 : Nat) : Int) := by rw [IntWalk.i64_in _ (by omega)]; omega
        have hw1 : IntKind.i64.wrap ((sx.size : Int) - (x.2.2 : Int)) = (sx.size : Int) - (x.2.2 : Int) := IntWalk.i64_in _ (by omega)
        have hbd1 : (0 : Int) ≤ (z : Int) := by omega
        have hbd2 : (z : Int) ≤ (sx.size : Int) := by omega
        have hbd3 : z ≤ sx.size := by omega
        have hbd4 : ¬ (sx.size : Int) < (z : Int) := by omega
        have hK1 : KeepIn (wr.alloc (.cells #[.string nx, .string sx, .int .i64 (x.2.2 : Int)] 120)) S ad c keep := HK.out.off hof0 (fun k _ hkq => by
          rcases hkq with hkq | hkq
          · rw [hkq]; exact hq
          · exact hvS k hkq)
        have HZ := Lib.hid hsxz
        have HSZ := Lib.hid (show (wr.setCell ⟨g, j * 3 + 1, none⟩ (.string (sx.extract 0 z))).heap.size = wr.heap.size ∧ ((wr.setCell ⟨g, j * 3 + 1, none⟩ (.string (sx.extract 0 z))).setCell ⟨g, j * 3 + 2, none⟩ (.int .i64 (z : Int))).heap.size = wr.heap.size from ⟨by simp [World.setCell], by simp [World.setCell]⟩)
        have hst2 : KAt ((wr.setCell ⟨g, j * 3 + 1, none⟩ (.string (sx.extract 0 z))).setCell ⟨g, j * 3 + 2, none⟩ (.int .i64 (z : Int))) q { a with L := L'.set j (x.1, x.2.1.take z, z) } (.slice (some ⟨g, 0, none⟩) m cap) := by
          have h1 := (HKK.out.set1' hx' (x.2.1.take z)).1
          rw [hsx] at h1
          have h2 := (h1.set2' (j := j) (x := (x.1, x.2.1.take z, x.2.2)) (by rw [List.getElem?_set_self (show j < L'.length by rw [hL', hm]; exact hjl)]) z).1
          rw [List.set_set] at h2
          exact h2
        have hsto : Off (fun k => k = q ∨ (Value.slice (some ⟨g, 0, none⟩) m cap).ownBlock = some k) W ((wr.setCell ⟨g, j * 3 + 1, none⟩ (.string (sx.extract 0 z))).setCell ⟨g, j * 3 + 2, none⟩ (.int .i64 (z : Int))) := (HO.out.set (p := ⟨g, j * 3 + 1, none⟩) (.inl (.inr rfl)) _).set (p := ⟨g, j * 3 + 2, none⟩) (.inl (.inr rfl)) _
        have EN := Lib.hid (HC.out.2 z hwt (by rw [← hz, hkt]) (((wr.setCell ⟨g, j * 3 + 1, none⟩ (.string (sx.extract 0 z))).setCell ⟨g, j * 3 + 2, none⟩ (.int .i64 (z : Int))).alloc (.cells #[.string nx, .string sx, .int .i64 (x.2.2 : Int)] 120)) (hst2.later ((Below.refl _ _).alloc (Nat.le_refl _) _)) (hsto.alloc _))
        clear hst2 hsto
        clear xk hsx0
        by_cases htk : t < keep.length
        · obtain ⟨bk, off, rfl, hk1, hk2, hk3⟩ := hK1.2 (by omega)
          have hkc := hk3 t htk
          have htki : (t : Int) < (keep.length : Int) := by omega
          have hmm : min (max (keep.getD t 0) 0) ((sx.size : Int) - (x.2.2 : Int)) = (kt : Int) := by
            rw [hkt]
            unfold keptOf
            rw [if_pos htk]
            omega
          generalize keep.getD t 0 = kv at hkc hmm
          clear hk3 hK1 hkt hwt hsxz
          go_wp2_with fail
          go_region_held3 (fun w => w.cell? ⟨bk, off + t, none⟩ = some (.int .i64 kv) ∧ w.cell? ⟨wr.heap.size, 1, none⟩ = some (.string sx) ∧ w.cell? ⟨wr.heap.size, 2, none⟩ = some (.int .i64 (x.2.2 : Int))) (exact ⟨hkc, u2, u3⟩) (fail)
          go_wp2_with fail
          go_region_held3 (fun w => w.cell? ⟨q, 1, none⟩ = some (.slice (some ⟨g, 0, none⟩) m cap) ∧ w.cell? ⟨wr.heap.size, 1, none⟩ = some (.string sx) ∧ w.cell? ⟨wr.heap.size, 2, none⟩ = some (.int .i64 (x.2.2 : Int)))
            (first | exact XK.out wr (Off.refl _ _) rfl | exact XK.out (wr.setCell ⟨g, j * 3 + 1, none⟩ (.string (sx.extract 0 z))) (Off.one wr ⟨g, j * 3 + 1, none⟩ _) HSZ.out.1) (fail)
          go_wp2_with fail
          go_region_held3 (fun w => w.cell? ⟨q, 1, none⟩ = some (.slice (some ⟨g, 0, none⟩) m cap) ∧ w.cell? ⟨wr.heap.size, 2, none⟩ = some (.int .i64 (x.2.2 : Int)))
            (first | exact ⟨(XK.out (wr.setCell ⟨g, j * 3 + 1, none⟩ (.string (sx.extract 0 z))) (Off.one wr ⟨g, j * 3 + 1, none⟩ _) HSZ.out.1).1, (XK.out (wr.setCell ⟨g, j * 3 + 1, none⟩ (.string (sx.extract 0 z))) (Off.one wr ⟨g, j * 3 + 1, none⟩ _) HSZ.out.1).2.2⟩ | exact ⟨(XK.out ((wr.setCell ⟨g, j * 3 + 1, none⟩ (.string (sx.extract 0 z))).setCell ⟨g, j * 3 + 2, none⟩ (.int .i64 (z : Int))) ((Off.one wr ⟨g, j * 3 + 1, none⟩ _).set (p := ⟨g, j * 3 + 2, none⟩) (.inl rfl) _) HSZ.out.2).1, (XK.out ((wr.setCell ⟨g, j * 3 + 1, none⟩ (.string (sx.extract 0 z))).setCell ⟨g, j * 3 + 2, none⟩ (.int .i64 (z : Int))) ((Off.one wr ⟨g, j * 3 + 1, none⟩ _).set (p := ⟨g, j * 3 + 2, none⟩) (.inl rfl) _) HSZ.out.2).2.2⟩) (fail)
          go_wp2_with fail
          go_roundw
          case rel => exact ⟨j + 1, t + 1, by go_num, by go_num, EN.out.drew.drew.drew⟩
          case measure => simp [intOf]; omega
        · have hk0 : kt = 0 := by rw [hkt]; unfold keptOf; rw [if_neg htk]
          have htki : ¬ (t : Int) < (keep.length : Int) := by omega
          obtain rfl : z = x.2.2 := by omega
          have hw5 : IntKind.i64.wrap ((x.2.2 : Int) + 0) = (x.2.2 : Int) + 0 := IntWalk.i64_in _ (by omega)
          have hw6 : IntKind.i64.wrap (x.2.2 : Int) = (x.2.2 : Int) := IntWalk.i64_in _ (by omega)
          generalize hzz : x.2.2 = zz at *
          clear hzz hK1 hkt hwt hsxz hw2 hz
          go_wp2_with fail
          go_region_held3 (fun w => w.cell? ⟨q, 1, none⟩ = some (.slice (some ⟨g, 0, none⟩) m cap) ∧ w.cell? ⟨wr.heap.size, 1, none⟩ = some (.string sx) ∧ w.cell? ⟨wr.heap.size, 2, none⟩ = some (.int .i64 (zz : Int)))
            (first | exact XK.out wr (Off.refl _ _) rfl | exact XK.out (wr.setCell ⟨g, j * 3 + 1, none⟩ (.string (sx.extract 0 zz))) (Off.one wr ⟨g, j * 3 + 1, none⟩ _) HSZ.out.1) (fail)
          go_wp2_with fail
          go_region_held3 (fun w => w.cell? ⟨q, 1, none⟩ = some (.slice (some ⟨g, 0, none⟩) m cap) ∧ w.cell? ⟨wr.heap.size, 2, none⟩ = some (.int .i64 (zz : Int)))
            (first | exact ⟨(XK.out (wr.setCell ⟨g, j * 3 + 1, none⟩ (.string (sx.extract 0 zz))) (Off.one wr ⟨g, j * 3 + 1, none⟩ _) HSZ.out.1).1, (XK.out (wr.setCell ⟨g, j * 3 + 1, none⟩ (.string (sx.extract 0 zz))) (Off.one wr ⟨g, j * 3 + 1, none⟩ _) HSZ.out.1).2.2⟩ | exact ⟨(XK.out ((wr.setCell ⟨g, j * 3 + 1, none⟩ (.string (sx.extract 0 zz))).setCell ⟨g, j * 3 + 2, none⟩ (.int .i64 (zz : Int))) ((Off.one wr ⟨g, j * 3 + 1, none⟩ _).set (p := ⟨g, j * 3 + 2, none⟩) (.inl rfl) _) HSZ.out.2).1, (XK.out ((wr.setCell ⟨g, j * 3 + 1, none⟩ (.string (sx.extract 0 zz))).setCell ⟨g, j * 3 + 2, none⟩ (.int .i64 (zz : Int))) ((Off.one wr ⟨g, j * 3 + 1, none⟩ _).set (p := ⟨g, j * 3 + 2, none⟩) (.inl rfl) _) HSZ.out.2).2.2⟩) (fail)
          go_wp2_with fail
          go_roundw
          case rel => exact ⟨j + 1, t + 1, by go_num, by go_num, EN.out.drew.drew⟩
          case measure => simp [intOf]; omega
    · have hje : j = a.L.length := by omega
      have hE := hC
      rw [hje] at hE
      obtain ⟨z2, x2, hE⟩ := kcrash_end hq hvS hE
      unfold crashA at hE
      rw [HR.out] at hE
      have HE := Lib.hid hE
      have y1 : wr.cell? ⟨q, 1, none⟩ = some (.slice nb m cap) := by
        obtain ⟨G, hK, _⟩ := hC
        exact (hK.box.cell 1).trans rfl
      clear hC hE
      have hji : ¬ (j : Int) < (m : Int) := by omega
      go_wp2
      go_ret
      exact HE.out
theorem kcrash_c (q : Nat) (a : Ab) (S : Nat → Prop) (W : World) (h : KIs W q a S) (ha : AbOk a) (hlen : a.L.length ≤ 1000000) (ad : Option Addr) (c : Nat) (keep : List Int) (hkl : keep.length ≤ 9223372036854775807) (hk : KeepIn W S ad c keep) :
    Calls Tryz.prog 36 #[dp q, .slice ad keep.length c] W (KDoes W q S (.int .i64 ((tearL keep 0 a.L).2 : Int)) (crashA a keep)) := by
  obtain ⟨v, h, hq, hvS⟩ := h
  obtain ⟨nb, cap, rfl⟩ := h.slice
  exact kcrash_some q a S W nb cap h hq hvS ha hlen ad c keep hkl hk
end Go.Proofs.YtjnphajkoopkgaaGreatDoor.Dk.Kd
