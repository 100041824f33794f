/- topic: the document's Create, by a contract. No condition but that they are not too many. -/
import Derived.Test.YtnpfakjgocnkbaaTpRt
import Derived.Test.YtnpfakjgocnkbaaTakes
namespace Go.Proofs.Ytnpfakjgocnkbaa
open Go.RowKit
set_option linter.unusedVariables false
theorem onInfo : (Try.prog.info? 39).map (fun i => (i.zero, i.size, i.bytes)) = some (some (.agg #[.string ⟨#[]⟩, .int .i64 0, .int .i64 0]), 3, 32) := by kernel_rfl
theorem ins_at {x : TE} : ∀ {F : List TE} {i : Nat}, i ≤ F.length → (∀ j y, j < i → F[j]? = some y → bytesBefore x.name y.name = false) → (∀ y, F[i]? = some y → bytesBefore x.name y.name = true) → insT x F = F.take i ++ x :: F.drop i
  | [], i, hi, _, _ => by
    have : i = 0 := by simpa using hi
    subst this
    rfl
  | y :: r, 0, _, _, h => by
    have := h y rfl
    unfold insT
    rw [if_pos this]
    rfl
  | y :: r, i + 1, hi, h1, h2 => by
    have hy := h1 0 y (by omega) rfl
    unfold insT
    rw [if_neg (by rw [hy]; decide), ins_at (x := x) (F := r) (i := i) (by simpa using hi) (fun j z hj hz => h1 (j + 1) z (by omega) (by simpa using hz)) (fun z hz => h2 z (by simpa using hz))]
    rfl
theorem findI_none {F : List TE} {s : List UInt8} (h : ofN F s = none) : findI F s = -1 := by
  unfold findI
  have : F.findIdx? (fun e => e.name == s) = none := by
    rw [List.findIdx?_eq_none_iff]
    intro e he
    have := List.find?_eq_none.1 h e he
    simpa using this
  rw [this]
theorem findI_some {F : List TE} {s : List UInt8} {e : TE} (hr : F.Pairwise fun a b => bytesBefore a.name b.name = true) (h : ofN F s = some e) : ∃ i : Nat, findI F s = (i : Int) ∧ F[i]? = some e ∧ minT F s = F.take i ++ F.drop (i + 1) := by
  obtain ⟨hm, hn⟩ := ofN_mem h
  obtain ⟨i, hi⟩ := List.getElem?_of_mem hm
  obtain ⟨hil, hie⟩ := List.getElem?_eq_some_iff.1 hi
  have hp := List.pairwise_iff_getElem.1 hr
  have hne : ∀ j (hj : j < F.length), j ≠ i → F[j].name ≠ s := fun j hj hji e' => by
    rcases Nat.lt_or_gt_of_ne hji with hlt | hlt
    · have := hp j i hj hil hlt
      rw [e', hie, hn, Go.WideAt.bytes_irrefl] at this
      cases this
    · have := hp i j hil hj hlt
      rw [e', hie, hn, Go.WideAt.bytes_irrefl] at this
      cases this
  refine ⟨i, ?_, hi, ?_⟩
  · unfold findI
    have : F.findIdx? (fun e => e.name == s) = some i := by
      rw [List.findIdx?_eq_some_iff_getElem]
      refine ⟨hil, by rw [hie, hn]; simp, fun j hj => ?_⟩
      have := hne j (by omega) (by omega)
      simpa using this
    rw [this]
  · have e1 : F = F.take i ++ (e :: F.drop (i + 1)) := by
      have h1 := List.take_append_drop i F
      rw [List.drop_eq_getElem_cons hil, hie] at h1
      exact h1.symm
    have ht : (F.take i).filter (fun e => !(e.name == s)) = F.take i := List.filter_eq_self.2 fun y hy => by
      obtain ⟨j, hj⟩ := List.getElem?_of_mem hy
      rw [List.getElem?_take] at hj
      split at hj
      · rename_i hji
        obtain ⟨hjl, hje⟩ := List.getElem?_eq_some_iff.1 hj
        have := hne j hjl (by omega)
        rw [hje] at this
        simpa using this
      · cases hj
    have hd : (F.drop (i + 1)).filter (fun e => !(e.name == s)) = F.drop (i + 1) := List.filter_eq_self.2 fun y hy => by
      obtain ⟨j, hj⟩ := List.getElem?_of_mem hy
      rw [List.getElem?_drop] at hj
      obtain ⟨hjl, hje⟩ := List.getElem?_eq_some_iff.1 hj
      have := hne (i + 1 + j) hjl (by omega)
      rw [hje] at this
      simpa using this
    unfold minT
    have h2 := congrArg (List.filter fun e => !(e.name == s)) e1
    rw [h2, List.filter_append, List.filter_cons, ht, hd, hn]
    simp
theorem nm_less (e : TE) (s : ByteArray) : Op.bytesLess (nmA e).toList s.toList = bytesBefore e.name s.data.toList := by rw [ByteArray.toList_eq, ByteArray.toList_eq, less_before, nmA_list]
def GotR (W : World) (base p : Nat) (r : Int × Int) (t : TS) (en : Ending) (w' : World) : Prop :=
  en = .returned (.tuple #[.int .i64 r.1, .int .i64 r.2]) ∧ ∃ A c, RtIs w' base p t.1 t.2 A c ∧ Off (fun k => k = p) W w'
theorem GotR.same {W w' : World} {base p c : Nat} {t : TS} {A : Option Addr} (r : Int × Int) (h : RtIs W base p t.1 t.2 A c) (hb : Below W.heap.size W w') : GotR W base p r t (.returned (.tuple #[.int .i64 r.1, .int .i64 r.2])) w' :=
  ⟨rfl, A, c, h.later hb, Off.of_below _ hb⟩
/-- The table's numbers are stored: it is the next one. -/
theorem rc_close {W w3 : World} {base p d3 c : Nat} {m : Nat} {n n' : Int} {F G : List TE} {A A3 : Option Addr} (h : RtIs W base p n F A c) (hbase : base ≤ W.heap.size) (hB : Below W.heap.size W w3) (hG : G.length = m) (o3 : w3.ownsRow W.heap.size 39 3 (.slice A3 m d3) m (rowT G)) :
    RtIs ((w3.setCell ⟨p, 1, none⟩ (.slice A3 m d3)).setCell ⟨p, 0, none⟩ (.int .i64 n')) base p n' G A3 d3 ∧ Off (fun k => k = p) W ((w3.setCell ⟨p, 1, none⟩ (.slice A3 m d3)).setCell ⟨p, 0, none⟩ (.int .i64 n')) := by
  subst hG
  have hbx := h.box.later hB
  have hO : Off (fun k => k = p) w3 ((w3.setCell ⟨p, 1, none⟩ (.slice A3 G.length d3)).setCell ⟨p, 0, none⟩ (.int .i64 n')) := ((Off.refl (fun k => k = p) w3).set (p := ⟨p, 1, none⟩) (.inl rfl) _).set (p := ⟨p, 0, none⟩) (.inl rfl) _
  exact ⟨⟨(hbx.set 1 _).set 0 _, own_off (own_base' o3 hbase) hO (fun k hk => own_ne o3 hbx (by decide) k hk)⟩, (Off.of_below _ hB).trans hO fun _ _ x => x⟩
theorem rd_close {W w3 : World} {base p d3 c : Nat} {m : Nat} {n : Int} {F G : List TE} {A A3 : Option Addr} (h : RtIs W base p n F A c) (hbase : base ≤ W.heap.size) (hB : Below W.heap.size W w3) (hG : G.length = m) (o3 : w3.ownsRow W.heap.size 39 3 (.slice A3 m d3) m (rowT G)) :
    RtIs (w3.setCell ⟨p, 1, none⟩ (.slice A3 m d3)) base p n G A3 d3 ∧ Off (fun k => k = p) W (w3.setCell ⟨p, 1, none⟩ (.slice A3 m d3)) := by
  subst hG
  have hbx := h.box.later hB
  have hO : Off (fun k => k = p) w3 (w3.setCell ⟨p, 1, none⟩ (.slice A3 G.length d3)) := (Off.refl (fun k => k = p) w3).set (p := ⟨p, 1, none⟩) (.inl rfl) _
  exact ⟨⟨hbx.set 1 _, own_off (own_base' o3 hbase) hO (fun k hk => own_ne o3 hbx (by decide) k hk)⟩, (Off.of_below _ hB).trans hO fun _ _ x => x⟩
theorem row_split (F : List TE) (k : Nat) : rowT F = rowT (F.take k) ++ rowT (F.drop k) := by rw [← rowT_app, List.take_append_drop]
set_option maxHeartbeats 16000000 in
set_option maxRecDepth 100000 in
theorem rcreate_c (p base : Nat) (t : TS) (A : Option Addr) (c : Nat) (s : ByteArray) (k : Int) (W : World) (h : RtIs W base p t.1 t.2 A c) (hok : TOk t) (hs : s.size ≤ 140737488351232) (hbase : base ≤ W.heap.size) :
    Calls Try.prog 10 #[.pointer (some ⟨p, 0, none⟩), .string s, .int .i64 k] W (GotR W base p (crR t s.data.toList k) (crS t s.data.toList k)) := by
  have HP := Lib.hid (fun (r : Int × Int) => GotR.same r h (Below.refl _ _))
  have hlen : s.data.toList.length = s.size := by rw [Array.length_toList]; rfl
  obtain ⟨r, hr⟩ : ∃ r, crR t s.data.toList k = r := ⟨_, rfl⟩
  have hcs : crS t s.data.toList k = if r.2 = 0 then (t.1 + 1, insT ⟨s.data.toList, t.1, k⟩ t.2) else t := by unfold crS; rw [hr]
  rw [hcs, hr]
  clear hcs
  unfold crR mayT nmB at hr
  rw [hlen] at hr
  have c0 := (h.box.cell 0).trans (show _ = some (Value.int .i64 t.1) from rfl)
  have c1 := (h.box.cell 1).trans (show _ = some (Value.slice A t.2.length c) from rfl)
  have cf := rfind_c t.1 t.2 A c base p s W h (by have := hok.many; omega)
  have H := Lib.hid h
  have HOK := Lib.hid hok
  clear h hok hlen
  by_cases q1 : s.size < 1
  · rw [decide_eq_false (show ¬ 1 ≤ s.size by omega)] at hr
    simp only [Bool.false_and, if_true] at hr
    subst hr
    have qi : (s.size : Int) < 1 := by omega
    clear q1
    go_enter Try.func10, Try.ntmps10
    go_wp2_with fail
    go_ret2
    exact HP.out _
  rw [decide_eq_true (show 1 ≤ s.size by omega)] at hr
  have q1i : ¬ (s.size : Int) < 1 := by omega
  by_cases q2 : 100 < s.size
  · rw [decide_eq_false (show ¬ s.size ≤ 100 by omega)] at hr
    simp only [Bool.and_false, Bool.false_and, if_true] at hr
    subst hr
    have qi : (100 : Int) < (s.size : Int) := by omega
    clear q1 q2
    go_enter Try.func10, Try.ntmps10
    go_wp2_with fail
    go_ret2
    exact HP.out _
  rw [decide_eq_true (show s.size ≤ 100 by omega)] at hr
  have q2i : ¬ (100 : Int) < (s.size : Int) := by omega
  by_cases q3 : k < 1
  · rw [decide_eq_false (show ¬ 1 ≤ k by omega)] at hr
    simp only [Bool.and_false, Bool.false_and, if_true] at hr
    subst hr
    clear q1 q2
    go_enter Try.func10, Try.ntmps10
    go_wp2_with fail
    go_ret2
    exact HP.out _
  rw [decide_eq_true (show 1 ≤ k by omega)] at hr
  by_cases q4 : 16 < k
  · rw [decide_eq_false (show ¬ k ≤ 16 by omega)] at hr
    simp only [Bool.and_false, if_true] at hr
    subst hr
    clear q1 q2
    go_enter Try.func10, Try.ntmps10
    go_wp2_with fail
    go_ret2
    exact HP.out _
  rw [decide_eq_true (show k ≤ 16 by omega)] at hr
  simp only [Bool.and_self, Bool.true_eq_false, if_false] at hr
  cases hf : ofN t.2 s.data.toList with
  | some e =>
    obtain ⟨i, hi, _, _⟩ := findI_some HOK.out.rise hf
    rw [hi] at cf
    rw [hf] at hr
    simp only [Option.isSome_some, if_true] at hr
    subst hr
    have hii : (0 : Int) ≤ (i : Int) := by omega
    clear q1 q2 hi hf
    go_enter Try.func10, Try.ntmps10
    go_wp2_with fail
    with_reducible refine cf.mono ?_
    rintro en w1 ⟨rfl, rfl⟩
    go_wp2_with fail
    go_ret2
    exact HP.out _
  | none =>
    rw [findI_none hf] at cf
    rw [hf] at hr
    simp only [Option.isSome_none, Bool.false_eq_true, if_false] at hr
    by_cases hn20 : 20 ≤ t.2.length
    · have hfu : fullT t = true := by unfold fullT; rw [decide_eq_true hn20]; rfl
      rw [hfu] at hr
      simp only [if_true] at hr
      subst hr
      have hg : (20 : Int) ≤ (t.2.length : Int) := by omega
      clear q1 q2 hf hfu hn20
      go_enter Try.func10, Try.ntmps10
      go_wp2_with fail
      with_reducible refine cf.mono ?_
      rintro en w1 ⟨rfl, rfl⟩
      go_wp2_with fail
      go_ret2
      exact HP.out _
    · by_cases hnx : 1073741824 ≤ t.1
      · have hfu : fullT t = true := by unfold fullT; rw [decide_eq_true hnx]; simp
        rw [hfu] at hr
        simp only [if_true] at hr
        subst hr
        have hg : ¬ (20 : Int) ≤ (t.2.length : Int) := by omega
        clear q1 q2 hf hfu hn20
        go_enter Try.func10, Try.ntmps10
        go_wp2_with fail
        with_reducible refine cf.mono ?_
        rintro en w1 ⟨rfl, rfl⟩
        go_wp2_with fail
        go_ret2
        exact HP.out _
      · have hfu : fullT t = false := by unfold fullT; rw [decide_eq_false hn20, decide_eq_false hnx]; rfl
        rw [hfu] at hr
        simp only [Bool.false_eq_true, if_false] at hr
        subst hr
        have hg : ¬ (20 : Int) ≤ (t.2.length : Int) := by omega
        have hlx : t.2.length ≤ 20 := by omega
        have hnn := HOK.out.next
        have HNO := Lib.hid hf
        have hpl := H.out.box.lt
        have f0 := H.out.box.frozen 0
        have f1 := H.out.box.frozen 1
        clear q1 q2 hf hfu hn20 HP
        go_enter Try.func10, Try.ntmps10
        go_wp2_with fail
        with_reducible refine cf.mono ?_
        rintro en w1 ⟨rfl, rfl⟩
        clear cf
        go_wp2_with fail
        go_loop [8] (fun i => ∃ j : Nat, i = .int .i64 j ∧ j ≤ t.2.length ∧ ∀ m y, m < j → t.2[m]? = some y → bytesBefore y.name s.data.toList = true) (fun i => t.2.length - (intOf i).toNat)
        case atStart => exact ⟨0, rfl, Nat.zero_le _, fun m y hm => by omega⟩
        case round =>
          obtain ⟨j, rfl, hj, hlow⟩ := hrel
          have HLOW := Lib.hid hlow
          clear hlow
          have hstop : (∃ y, t.2[j]? = some y ∧ bytesBefore y.name s.data.toList = true) ∨ (∀ y, t.2[j]? = some y → bytesBefore y.name s.data.toList = false) := by
            cases hy : t.2[j]? with
            | none => exact .inr (fun y h => by cases h)
            | some y =>
              cases hb : bytesBefore y.name s.data.toList with
              | true => exact .inl ⟨y, rfl, hb⟩
              | false => exact .inr (fun z hz => by injection hz with hz; rw [← hz]; exact hb)
          rcases hstop with ⟨y, hy, hb⟩ | hno
          · have hjl : j < t.2.length := (List.getElem?_eq_some_iff.1 hy).1
            obtain ⟨g, rfl, _, z0, z1, z2, hgl, hc⟩ := rt_cell rfl H.out.row hy
            have hls := nm_less y s
            rw [hb] at hls
            have hji : (j : Int) < (t.2.length : Int) := by omega
            have hj0 : (0 : Int) ≤ (j : Int) := by omega
            have HY := Lib.hid hy
            have HBB := Lib.hid hb
            clear hy hb
            go_wp2_with fail
            go_round
            case rel => exact ⟨j + 1, by go_num, hjl, fun m z hm hz => by
              rcases Nat.lt_succ_iff_lt_or_eq.1 hm with hm | hm
              · exact HLOW.out m z hm hz
              · subst hm
                have := HY.out
                rw [hz] at this
                injection this with this
                rw [this]; exact HBB.out⟩
            case measure => simp [intOf]; omega
          · have hins : Hid (insT ⟨s.data.toList, t.1, k⟩ t.2 = t.2.take j ++ (⟨s.data.toList, t.1, k⟩ : TE) :: t.2.drop j) := Lib.hid (ins_at hj (fun m y hm hy => bytes_asymm (HLOW.out m y hm hy)) (fun y hy => by
              have h1 := hno y hy
              have hne : y.name ≠ s.data.toList := fun e => by
                have := List.find?_eq_none.1 HNO.out y (List.mem_of_getElem? hy)
                rw [e] at this
                simp at this
              rcases Go.WideAt.bytes_total y.name s.data.toList hne with h | h
              · rw [h] at h1; cases h1
              · exact h))
            have HSTOP := Lib.hid hno
            have hrow := H.out.row
            rw [row_split t.2 j] at hrow
            obtain ⟨A1, d1, w1, A2, d2, w2, A3, d3, w3, r1, r2, r3, b1, b2, b3, o3⟩ := ins3 (t := 26) (by decide) Try.underlying26 onInfo rfl (by decide) hrow (k := j) (m := t.2.length - j) (by rw [rowT_len, List.length_take]; congr 1; omega) (by rw [rowT_len, List.length_drop]) (by omega) (by rw [← row_split]; exact rowT_one t.2) (by omega) #[.string s, .int .i64 t.1, .int .i64 k] rfl (by simp [Value.oneCell'])
            have hj0 : (0 : Int) ≤ (j : Int) := by omega
            have hjn : (j : Int) ≤ (t.2.length : Int) := by omega
            have hcap : t.2.length ≤ c := by
              rcases H.out.row.2 with ⟨hv, h0⟩ | ⟨g, cap, cur, hv, _, _, hnc, _⟩
              · injection hv with _ h1 h2; omega
              · injection hv with _ _ h2; omega
            have hjc : (j : Int) ≤ (c : Int) := by omega
            have HB3 := Lib.hid b3
            have HO3 := Lib.hid o3
            have x10 := (H.out.box.later b1).cell 0 |>.trans (show _ = some (Value.int .i64 t.1) from rfl)
            have x11 := (H.out.box.later b1).cell 1 |>.trans (show _ = some (Value.slice A t.2.length c) from rfl)
            have x21 := (H.out.box.later b2).cell 1 |>.trans (show _ = some (Value.slice A t.2.length c) from rfl)
            have x30 := (H.out.box.later b3).cell 0 |>.trans (show _ = some (Value.int .i64 t.1) from rfl)
            have x31 := (H.out.box.later b3).frozen 1
            have x32 := (H.out.box.later b3).frozen 0
            have x33 := (H.out.box.later b3).cell 1 |>.trans (show _ = some (Value.slice A t.2.length c) from rfl)
            have p1 : p < w1.heap.size := Nat.lt_of_lt_of_le hpl b1.size
            have p2 : p < w2.heap.size := Nat.lt_of_lt_of_le hpl b2.size
            have p3 : p < w3.heap.size := Nat.lt_of_lt_of_le hpl b3.size
            clear hrow b1 b2 b3 o3 hno
            unfold sliced at r3
            by_cases hjl : j < t.2.length
            · obtain ⟨y, hy⟩ : ∃ y, t.2[j]? = some y := ⟨_, List.getElem?_eq_getElem hjl⟩
              have hyb := HSTOP.out y hy
              obtain ⟨g, rfl, _, z0, z1, z2, hgl, hc⟩ := rt_cell rfl H.out.row hy
              have hls := nm_less y s
              rw [hyb] at hls
              have hji : (j : Int) < (t.2.length : Int) := by omega
              have hck : ¬ c = j := by omega
              rw [if_neg hck] at r3
              simp only [Option.map_some, add_spot, Nat.zero_add] at r3
              clear hy hyb
              go_wp2_with (at_builtin; first | refine wpList_append_run rfl (.tmp 64) (.tmp 70) 26 rfl _ _ _ rfl rfl r1 ?_ | refine wpList_append_run rfl (.tmp 72) (.tmp 80) 26 rfl _ _ _ rfl rfl r2 ?_ | refine wpList_append_run rfl (.tmp 83) (.tmp 89) 26 rfl _ _ _ rfl rfl r3 ?_)
              go_ret2
              have hfin := rc_close (n' := t.1 + 1) (G := insT ⟨s.data.toList, t.1, k⟩ t.2) H.out hbase HB3.out (insT_len _ _) (by
                rw [hins.out]
                have := HO3.out
                rw [show rowT (t.2.take j ++ (⟨s.data.toList, t.1, k⟩ : TE) :: t.2.drop j) = rowT (t.2.take j) ++ ([Value.string s, .int .i64 t.1, .int .i64 k] ++ rowT (t.2.drop j)) by rw [rowT_app]; rfl]
                exact this)
              refine ⟨by first | rfl | (rw [Int.add_sub_cancel]) | (congr 2; simp), A3, d3, ?_⟩
              exact hfin
            · have hjl2 : j = t.2.length := by omega
              subst hjl2
              have hji : ¬ (t.2.length : Int) < (t.2.length : Int) := by omega
              by_cases hck : c = t.2.length
              · rw [if_pos hck, Nat.sub_self, show c - t.2.length = 0 by omega] at r3
                subst hck
                go_wp2_with (at_builtin; first | refine wpList_append_run rfl (.tmp 64) (.tmp 70) 26 rfl _ _ _ rfl rfl r1 ?_ | refine wpList_append_run rfl (.tmp 72) (.tmp 80) 26 rfl _ _ _ rfl rfl r2 ?_ | refine wpList_append_run rfl (.tmp 83) (.tmp 89) 26 rfl _ _ _ rfl rfl r3 ?_)
                go_ret2
                have hfin := rc_close (n' := t.1 + 1) (G := insT ⟨s.data.toList, t.1, k⟩ t.2) H.out hbase HB3.out (insT_len _ _) (by
                  rw [hins.out]
                  have := HO3.out
                  rw [show rowT (t.2.take t.2.length ++ (⟨s.data.toList, t.1, k⟩ : TE) :: t.2.drop t.2.length) = rowT (t.2.take t.2.length) ++ ([Value.string s, .int .i64 t.1, .int .i64 k] ++ rowT (t.2.drop t.2.length)) by rw [rowT_app]; rfl]
                  exact this)
                refine ⟨by first | rfl | (rw [Int.add_sub_cancel]) | (congr 2; simp), A3, d3, ?_⟩
                exact hfin
              · rw [if_neg hck, Nat.sub_self] at r3
                cases A with
                | none =>
                  exfalso
                  rcases H.out.row.2 with ⟨hv, h0⟩ | ⟨g, cap, cur, hv, _⟩
                  · injection hv with _ h1 h2; omega
                  · cases hv
                | some a =>
                  obtain ⟨g, rfl⟩ : ∃ g, a = ⟨g, 0, none⟩ := by
                    rcases H.out.row.2 with ⟨hv, h0⟩ | ⟨g, cap, cur, hv, _⟩
                    · cases hv
                    · injection hv with h1; injection h1 with h1; exact ⟨g, h1⟩
                  simp only [Option.map_some, add_spot, Nat.zero_add] at r3
                  go_wp2_with (at_builtin; first | refine wpList_append_run rfl (.tmp 64) (.tmp 70) 26 rfl _ _ _ rfl rfl r1 ?_ | refine wpList_append_run rfl (.tmp 72) (.tmp 80) 26 rfl _ _ _ rfl rfl r2 ?_ | refine wpList_append_run rfl (.tmp 83) (.tmp 89) 26 rfl _ _ _ rfl rfl r3 ?_)
                  go_ret2
                  have hfin := rc_close (n' := t.1 + 1) (G := insT ⟨s.data.toList, t.1, k⟩ t.2) H.out hbase HB3.out (insT_len _ _) (by
                    rw [hins.out]
                    have := HO3.out
                    rw [show rowT (t.2.take t.2.length ++ (⟨s.data.toList, t.1, k⟩ : TE) :: t.2.drop t.2.length) = rowT (t.2.take t.2.length) ++ ([Value.string s, .int .i64 t.1, .int .i64 k] ++ rowT (t.2.drop t.2.length)) by rw [rowT_app]; rfl]
                    exact this)
                  refine ⟨by first | rfl | (rw [Int.add_sub_cancel]) | (congr 2; simp), A3, d3, ?_⟩
                  exact hfin
end Go.Proofs.Ytnpfakjgocnkbaa
