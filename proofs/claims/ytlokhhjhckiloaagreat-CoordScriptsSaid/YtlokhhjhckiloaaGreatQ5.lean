/- coord: merged texts. What each proves is told at its head. -/
import Derived.Test.YtlokhhjhckiloaaGreatQ4
import Derived.BigRegion
import Derived.Test.YtlokhhjhckiloaaGreatQN
import Derived.BigQuiet
import Derived.Deep.Cut
import Derived.Deep.CutRange
/- coord: the document's Join that makes a group. No condition but that calls are not too many. -/
namespace Go.Proofs.YtlokhhjhckiloaaGreat
open Go.RowKit Go.Maps Go.ChangeMaps Go.WideMaps
set_option linter.unusedVariables false
theorem namedInfo : (Tryz.prog.info? 88).map (fun i => (i.zero, i.size, i.bytes)) = some (some (.agg #[.string ⟨#[]⟩, .pointer none]), 2, 24) := by kernel_rfl
theorem newG_q {k ss rb : Int} (hk : 0 ≤ k) (hs : 1 ≤ ss ∧ ss ≤ 100000) (hr : 1 ≤ rb ∧ rb ≤ 100000) : GQ k (newG ss rb) ∧ GN (newG ss rb) :=
  ⟨⟨by simp [newG], ⟨by show 0 ≤ ss; omega, hs.2⟩, ⟨by show 0 ≤ rb; omega, hr.2⟩, ⟨Int.le_refl _, hk⟩, ⟨Int.le_refl _, hk⟩, fun x hx => by cases hx⟩, .inl rfl⟩
theorem nm_less (e : CE) (s : ByteArray) : Op.bytesLess (nmA e).toList s.toList = bytesBefore e.name s.data.toList := by rw [ByteArray.toList_eq, ByteArray.toList_eq, Of.less_before, nmA_list]
/-- What Join of a group that is not there leaves. -/
def GotKN (W w : World) (q t : Nat) (k ss rb : Int) (F : List CE) (D : Nat → GD) (O : List Of.KE) (s : ByteArray) (m now : Int) (T : List ByteArray) (e : Ending) (w' : World) : Prop :=
  (joinE m T now (newG ss rb) ≠ 0 ∧ e = .returned (.tuple #[.int .i64 0, .int .i64 0, .int .i64 0, .int .i64 (joinE m T now (newG ss rb))]) ∧ KK W w q t (k + 2) ss rb (gv F D) F.length O w') ∨
  (joinE m T now (newG ss rb) = 0 ∧ e = .returned (.tuple #[.int .i64 (joinM m (newG ss rb)), .int .i64 (joinD m T now (newG ss rb)).gn, .int .i64 (leadM (joinD m T now (newG ss rb))), .int .i64 0]) ∧ KK W w q t (k + 2) ss rb (putSt (gv F D) s.data.toList (some (joinD m T now (newG ss rb)))) (F.length + 1) O w')
section
variable {W w w' : World} {q c t : Nat} {A : Option Addr} {k ss rb : Int} {F : List CE} {V : Nat → Value} {D : Nat → GD} {O : List Of.KE}
/-- The row is stored: there is one group more. -/
theorem KO.stored {w3 : World} {x : CE} {v : Value} {R : List MV} {G : GD} {A3 : Option Addr} {d3 j n : Nat} (h : KO W w q c t A k ss rb F V D O) (hn0 : n = F.length) (hx : KIs w W.heap.size x.blk v R G) (hq : GQ k G) (hn : GN G) (hfr : ∀ e ∈ F, e.blk < x.blk) (hap : ∀ e ∈ F, ∀ i, (V e.blk).ownBlock = some i → v.ownBlock ≠ some i) (hnone : ofN F x.name = none) (hl : F.length < 20) (hxn : x.name.length ≤ 100)
    (hb : Below w.heap.size w w3) (hins : F.take j ++ x :: F.drop j = insC x F) (o3 : w3.ownsRow w.heap.size 88 2 (.slice A3 (n + 1) d3) (n + 1) (nmdC (F.take j) ++ ([Value.string (nmA x), .pointer (some ⟨x.blk, 0, none⟩)] ++ nmdC (F.drop j)))) :
    (∃ c' A' F' V' D', KO W (w3.setCell ⟨q, 2, none⟩ (.slice A3 (n + 1) d3)) q c' t A' k ss rb F' V' D' O ∧ (∀ s, gv F' D' s = putSt (gv F D) x.name (some G) s) ∧ F'.length = F.length + 1) ∧ KeepK w (w3.setCell ⟨q, 2, none⟩ (.slice A3 (n + 1) d3)) ∧ ∃ R', KIs (w3.setCell ⟨q, 2, none⟩ (.slice A3 (n + 1) d3)) W.heap.size x.blk v R' G := by
  subst hn0
  have h3 := h.later hb
  have hp : putC x F = insC x F := by unfold putC; rw [minC_none hnone]
  have hlen : (putC x F).length = F.length + 1 := by rw [hp, insC_len]
  have hO : Off (fun i => i = q) w3 (w3.setCell ⟨q, 2, none⟩ (.slice A3 (F.length + 1) d3)) := (Off.refl (fun i => i = q) w3).set (p := ⟨q, 2, none⟩) (.inl rfl) _
  have hrow : nmdC (F.take j) ++ ([Value.string (nmA x), .pointer (some ⟨x.blk, 0, none⟩)] ++ nmdC (F.drop j)) = nmdC (putC x F) := by
    rw [hp, ← hins, nmdC_app]
    rfl
  rw [hrow, ← hlen] at o3
  have hk := h3.ins (A' := A3) (c' := d3) (w' := w3.setCell ⟨q, 2, none⟩ (.slice A3 (F.length + 1) d3)) (hx.later hb) hq hn (fun e he => Nat.ne_of_lt (hfr e he)) hap hnone hl hxn hO (by
    rw [hlen]
    exact h3.is.box.set 2 _) (by
    have h5 := own_base2 (own_off o3 hO (fun i hi e => own_ne o3 h3.is.box (by decide) i hi e)) h.bel.size
    rw [← hlen] at h5 ⊢
    exact h5)
  obtain ⟨k1, k2, k3⟩ := hk
  have hmem : x ∈ putC x F := putC_mem.2 (.inl rfl)
  obtain ⟨R', hR'⟩ := (k1.grp x hmem).is
  rw [updF_same, updF_same] at hR'
  refine ⟨⟨d3, A3, _, _, _, k1, fun s => ?_, k2⟩, ?_, R', hR'⟩
  · rw [k3 s]; rfl
  · refine (KeepK.of_below hb).trans (fun i o hi hbad => (hO.block i (Array.getElem?_eq_some_iff.1 hi).1 (fun e => hbad ?_)).trans hi)
    have e : i = q := e
    subst e
    have hbx := h3.is.box
    unfold Box at hbx
    rw [hbx] at hi
    injection hi with hi
    rw [← hi]
    exact ⟨_, _, _, rfl, .inr (.inr (.inl rfl))⟩
set_option maxHeartbeats 16000000 in
set_option maxRecDepth 100000 in
theorem kojoin_new (h : KO W w q c t A k ss rb F V D O) (hk : 0 ≤ k ∧ k ≤ 999000) (s : ByteArray) (hs : 1 ≤ s.size ∧ s.size ≤ 100) (hf : ofN F s.data.toList = none) (hl : F.length < 20) (m now : Int) (T : List ByteArray) (A2 : Option Addr) (c2 : Nat) (hT : StrIn W A2 T) (hTA : A2 = none → T = []) (hTl : T.length ≤ 140737488351232) (hTz : ∀ s ∈ T, s.size ≤ 281474976710656) :
    Calls Tryz.prog 26 #[.pointer (some ⟨q, 0, none⟩), .string s, .int .i64 m, .slice A2 T.length c2, .int .i64 now] w (GotKN W w q t k ss rb F D O s m now T) := by
  have cf := kofind_c h.is (by have := h.few; omega) s
  rw [hf] at cf
  simp only [lookV] at cf
  have hgq := newG_q hk.1 h.ss h.rb
  have h1' : ¬ (s.size : Int) < 1 := by omega
  have h2' : ¬ (100 : Int) < (s.size : Int) := by omega
  have h3' : ¬ (20 : Int) ≤ (F.length : Int) := by omega
  have ck := fun (w2 : World) (hb : Below w.heap.size w w2) (w1 : World) (hx : KIs w1 W.heap.size w2.heap.size (.slice none 0 0) [] (newG ss rb)) (hb1 : Below w.heap.size w w1) => kjoin_c W.heap.size w2.heap.size (.slice none 0 0) [] (newG ss rb) m now T A2 c2 w1 hx hgq.1.bd hgq.1.len ⟨Int.le_refl _, (show (0 : Int) ≤ 999999 by decide)⟩ ⟨Int.le_refl _, (show (0 : Int) ≤ 999999 by decide)⟩ (Nat.le_trans h.bel.size hb1.size) (hT.below (h.bel.trans (hb1.mono h.bel.size))) hTA hTl hTz (fun hp => str_far hT hp (fun j hj => by
    rcases hj with rfl | e
    · exact Nat.le_trans h.bel.size hb.size
    · cases e))
  have HH := Lib.hid h
  have HK := Lib.hid hk
  have HF := Lib.hid hf
  have HL := Lib.hid hl
  have HS := Lib.hid hs
  have HQ := Lib.hid hgq
  have HTZ := Lib.hid hTz
  clear h hf hgq hT hk hl hs
  go_enter Tryz.func26, Tryz.ntmps26
  go_wp2_with fail
  with_reducible refine cf.mono ?_
  rintro en w2 ⟨rfl, hb⟩
  obtain ⟨d0, d1, d2, d3, dl⟩ := (HH.out.later hb).is.cells
  have ck2 := ck w2 hb
  have HB := Lib.hid hb
  clear hb ck cf
  go_wp2_with fail
  go_region
  go_wp2_with fail
  have HX0 := KIs.new w2 W.heap.size ss rb (Nat.le_trans HH.out.bel.size HB.out.size)
  have hbA : Below w2.heap.size w2 (w2.alloc (.cells #[.int .i64 ss, .int .i64 rb, .int .i64 0, .int .i64 0, .int .i64 0, .int .i64 0, .slice none 0 0] 81)).drew := ((Below.refl _ _).alloc (Nat.le_refl _) _).drew
  have ck3 := ck2 _ (HX0.later (Below.refl _ _).drew) (HB.out.trans (hbA.mono HB.out.size))
  have HBA := Lib.hid hbA
  clear ck2 HX0 hbA d0 d1 d2 d3 dl
  with_reducible refine ck3.mono ?_
  rintro en w4 ⟨rfl, v', R', b1, b2, b3⟩
  have hb4 : Below w.heap.size w w4 := (HB.out.trans (HBA.out.mono HB.out.size)).trans (b2.below (Nat.le_trans HB.out.size HBA.out.size) (fun i hi => by
    rcases hi with rfl | e
    · exact HB.out.size
    · cases e))
  have HB4 := Lib.hid hb4
  have HG := Lib.hid b1
  have HV : Hid (∀ i, v'.ownBlock = some i → w2.heap.size ≤ i) := Lib.hid (fun i hi => by
    rcases b3 i hi with e | e
    · cases e
    · exact Nat.le_trans HBA.out.size e)
  have HQ2 : Hid (GQ (k + 2) (joinD m T now (newG ss rb)) ∧ GN (joinD m T now (newG ss rb))) := Lib.hid ⟨HQ.out.1.join m now T HTZ.out, HQ.out.2.join m now T⟩
  clear ck3 b1 b2 b3 hb4
  by_cases hE : joinE m T now (newG ss rb) = 0
  · rw [hE, if_pos rfl]
    have HE0 := Lib.hid hE
    clear hE
    go_wp2_with fail
    -- LOOP
    have HK4 := Lib.hid ((HH.out.later HB4.out).bump (j := k + 2) (by omega))
    have hlx : F.length ≤ 20 := by have := HL.out; omega
    obtain ⟨d0, d1, d2, d3, dl⟩ := HK4.out.is.cells
    have f2 := HK4.out.is.box.frozen 2
    have HFR : Hid (∀ e ∈ F, e.blk < w2.heap.size) := Lib.hid (fun e he => by
      obtain ⟨R0, h0⟩ := (HH.out.grp e he).is
      exact Nat.lt_of_lt_of_le h0.box.lt HB.out.size)
    have HAP : Hid (∀ e ∈ F, ∀ i, (V e.blk).ownBlock = some i → v'.ownBlock ≠ some i) := Lib.hid (fun e he i hi hj => by
      obtain ⟨R0, h0⟩ := (HH.out.grp e he).is
      have h1 := (h0.lt i (.inr hi)).2
      have h2 := HV.out i hj
      have h3 := HB.out.size
      omega)
    clear h3'
    go_loop [18] (fun i => ∃ j : Nat, i = .int .i64 j ∧ j ≤ F.length ∧ ∀ m y, m < j → F[m]? = some y → bytesBefore y.name s.data.toList = true) (fun i => F.length - (intOf i).toNat)
    case atStart => exact ⟨0, rfl, Nat.zero_le _, fun m y hm => by omega⟩
    case round =>
      obtain ⟨j, rfl, hj, hlow⟩ := hrel
      have HLOW := Lib.hid hlow
      clear hlow
      have hstop : (∃ y, F[j]? = some y ∧ bytesBefore y.name s.data.toList = true) ∨ (∀ y, F[j]? = some y → bytesBefore y.name s.data.toList = false) := by
        cases hy : F[j]? with
        | none => exact .inr (fun y h => by cases h)
        | some y =>
          cases hb : bytesBefore y.name s.data.toList with
          | true => exact .inl ⟨y, rfl, hb⟩
          | false => exact .inr (fun z hz => by injection hz with hz; rw [← hz]; exact hb)
      rcases hstop with ⟨y, hy, hb⟩ | hno
      · have hjl : j < F.length := (List.getElem?_eq_some_iff.1 hy).1
        obtain ⟨r, rfl, hrl, z0, z1⟩ := HK4.out.is.at_ hy
        have hls := nm_less y s
        rw [hb] at hls
        have hji : (j : Int) < (F.length : Int) := by omega
        have hj0 : (0 : Int) ≤ (j : Int) := by omega
        have HY := Lib.hid hy
        have HBB := Lib.hid hb
        clear hy hb
        go_wp2_with fail
        go_round
        case rel => exact ⟨j + 1, by go_num, hjl, fun m z hm hz => by
          rcases Nat.lt_succ_iff_lt_or_eq.1 hm with hm | hm
          · exact HLOW.out m z hm hz
          · subst hm
            have := HY.out
            rw [hz] at this
            injection this with this
            rw [this]; exact HBB.out⟩
        case measure => simp [intOf]; omega
      · have hins : Hid (F.take j ++ (⟨s.data.toList, w2.heap.size⟩ : CE) :: F.drop j = insC ⟨s.data.toList, w2.heap.size⟩ F) := Lib.hid (insC_at ⟨s.data.toList, w2.heap.size⟩ F j hj HLOW.out (fun y hy => by
          have h1 := hno y hy
          have hne : y.name ≠ s.data.toList := fun e => by
            have := List.find?_eq_none.1 HF.out y (List.mem_of_getElem? hy)
            rw [e] at this
            simp at this
          rcases Go.WideAt.bytes_total y.name s.data.toList hne with h | h
          · rw [h] at h1; cases h1
          · exact h))
        have HSTOP := Lib.hid hno
        have hrow := HK4.out.is.row
        rw [nmdC_split F j] at hrow
        obtain ⟨A1, d7, w1, A2', d8, wb, A3, d9, w3, r1, r2, r3, b1, b2, b3, o3⟩ := ins3 (t := 74) (by decide) Tryz.underlying74 namedInfo rfl (by decide) hrow (k := j) (m := F.length - j) (by rw [nmdC_len, List.length_take]; congr 1; omega) (by rw [nmdC_len, List.length_drop]) (by omega) (by rw [← nmdC_split]; exact nmdC_one F) (by omega) #[.string s, .pointer (some ⟨w2.heap.size, 0, none⟩)] rfl (by simp [Value.oneCell'])
        have hnm : nmA (⟨s.data.toList, w2.heap.size⟩ : CE) = s := by unfold nmA; simp
        have hfin := KO.stored (x := ⟨s.data.toList, w2.heap.size⟩) (n := F.length) HK4.out rfl HG.out HQ2.out.1 HQ2.out.2 HFR.out HAP.out HF.out HL.out (by
          show s.data.toList.length ≤ 100
          rw [Array.length_toList]; exact HS.out.2) b3 hins.out (by
          rw [hnm]
          exact o3)
        obtain ⟨hf1, hf2, R5, hG5⟩ := hfin
        have HFIN := Lib.hid (And.intro hf1 hf2)
        have hL := join_some HE0.out
        have hne : R5 ≠ [] := fun e => hL (by rw [← hG5.abs, e]; rfl)
        obtain ⟨x, hx⟩ : ∃ x, R5[0]? = some x := by
          cases R5 with
          | nil => exact absurd rfl hne
          | cons a l => exact ⟨a, rfl⟩
        have HLD : Hid (leadM (joinD m T now (newG ss rb)) = x.d.n) := Lib.hid (by
          unfold leadM
          rw [← hG5.abs]
          cases R5 with
          | nil => cases hx
          | cons a l =>
            have : a = x := by simpa using hx
            subst this
            rfl)
        obtain ⟨g5, cc, hv, hgl5, _, _, u0, _⟩ := hG5.at_ hx
        subst hv
        rw [Nat.zero_mul] at u0
        have hpos : (0 : Int) < (R5.length : Int) := by
          have := (List.getElem?_eq_some_iff.1 hx).1
          omega
        obtain ⟨e0, e1, e2, e3, e4, e5, e6, el, _⟩ := kg7 hG5.box
        have hj0 : (0 : Int) ≤ (j : Int) := by omega
        have hjn : (j : Int) ≤ (F.length : Int) := by omega
        have hcap : F.length ≤ c := by
          rcases HK4.out.is.row.2 with ⟨hv, h0⟩ | ⟨g, cap, cur, hv, _, _, hnc, _⟩
          · injection hv with _ h1 h2; omega
          · injection hv with _ _ h2; omega
        have hjc : (j : Int) ≤ (c : Int) := by omega
        have x12 := (HK4.out.is.box.later b1).cell 2 |>.trans (show _ = some (Value.slice A F.length c) from rfl)
        have x22 := (HK4.out.is.box.later b2).cell 2 |>.trans (show _ = some (Value.slice A F.length c) from rfl)
        have x31 := (HK4.out.is.box.later b3).frozen 2
        have x32 := (HK4.out.is.box.later b3).cell 2 |>.trans (show _ = some (Value.slice A F.length c) from rfl)
        have p1 : q < w1.heap.size := Nat.lt_of_lt_of_le dl b1.size
        have p2 : q < wb.heap.size := Nat.lt_of_lt_of_le dl b2.size
        have p3 : q < w3.heap.size := Nat.lt_of_lt_of_le dl b3.size
        clear hrow b1 b2 b3 o3 hno hf1 hf2 hG5 hL hne hx hnm e0 e1 e2 e4 e5
        unfold sliced at r3
        by_cases hjl : j < F.length
        · obtain ⟨y, hy⟩ : ∃ y, F[j]? = some y := ⟨_, List.getElem?_eq_getElem hjl⟩
          have hyb := HSTOP.out y hy
          obtain ⟨r, rfl, hrl, z0, z1⟩ := HK4.out.is.at_ hy
          have hls := nm_less y s
          rw [hyb] at hls
          have hji : (j : Int) < (F.length : Int) := by omega
          have hck : ¬ c = j := by omega
          rw [if_neg hck] at r3
          simp only [Option.map_some, add_spot, Nat.zero_add] at r3
          clear hy hyb
          go_wp2_with (at_builtin; first | refine wpList_append_run rfl (.tmp 89) (.tmp 95) 74 rfl _ _ _ rfl rfl r1 ?_ | refine wpList_append_run rfl (.tmp 97) (.tmp 101) 74 rfl _ _ _ rfl rfl r2 ?_ | refine wpList_append_run rfl (.tmp 104) (.tmp 110) 74 rfl _ _ _ rfl rfl r3 ?_)
          go_quiet (fail)
          go_wp2_with fail
          refine bodyPost_ret (v := .tuple #[.int .i64 (joinM m (newG ss rb)), .int .i64 (joinD m T now (newG ss rb)).gn, .int .i64 x.d.n, .int .i64 0]) (by simp [results, Tryz.results26, go_sem]) rfl (.inr ⟨HE0.out, by rw [HLD.out], ?_⟩)
          obtain ⟨⟨c9, A9, F9, V9, D9, k1, k2, k3⟩, k4⟩ := HFIN.out
          exact KK.later (w := w3.setCell ⟨q, 2, none⟩ (.slice A3 (F.length + 1) d9)) ⟨(KeepK.of_below HB4.out).trans k4, c9, A9, F9, V9, D9, k1, k2, k3⟩ (below_drewN (Below.refl _ _) nq)
        · have hjl2 : j = F.length := by omega
          subst hjl2
          have hji : ¬ (F.length : Int) < (F.length : Int) := by omega
          by_cases hck : c = F.length
          · rw [if_pos hck, Nat.sub_self, show c - F.length = 0 by omega] at r3
            subst hck
            go_wp2_with (at_builtin; first | refine wpList_append_run rfl (.tmp 89) (.tmp 95) 74 rfl _ _ _ rfl rfl r1 ?_ | refine wpList_append_run rfl (.tmp 97) (.tmp 101) 74 rfl _ _ _ rfl rfl r2 ?_ | refine wpList_append_run rfl (.tmp 104) (.tmp 110) 74 rfl _ _ _ rfl rfl r3 ?_)
            go_quiet (fail)
            go_wp2_with fail
            refine bodyPost_ret (v := .tuple #[.int .i64 (joinM m (newG ss rb)), .int .i64 (joinD m T now (newG ss rb)).gn, .int .i64 x.d.n, .int .i64 0]) (by simp [results, Tryz.results26, go_sem]) rfl (.inr ⟨HE0.out, by rw [HLD.out], ?_⟩)
            obtain ⟨⟨c9, A9, F9, V9, D9, k1, k2, k3⟩, k4⟩ := HFIN.out
            exact KK.later (w := w3.setCell ⟨q, 2, none⟩ (.slice A3 (F.length + 1) d9)) ⟨(KeepK.of_below HB4.out).trans k4, c9, A9, F9, V9, D9, k1, k2, k3⟩ (below_drewN (Below.refl _ _) nq)
          · rw [if_neg hck, Nat.sub_self] at r3
            cases A with
            | none =>
              exfalso
              rcases HK4.out.is.row.2 with ⟨hv, h0⟩ | ⟨g, cap, cur, hv, _⟩
              · injection hv with _ h1 h2; omega
              · cases hv
            | some a =>
              obtain ⟨g, rfl⟩ : ∃ g, a = ⟨g, 0, none⟩ := by
                rcases HK4.out.is.row.2 with ⟨hv, h0⟩ | ⟨g, cap, cur, hv, _⟩
                · cases hv
                · injection hv with h1; injection h1 with h1; exact ⟨g, h1⟩
              simp only [Option.map_some, add_spot, Nat.zero_add] at r3
              go_wp2_with (at_builtin; first | refine wpList_append_run rfl (.tmp 89) (.tmp 95) 74 rfl _ _ _ rfl rfl r1 ?_ | refine wpList_append_run rfl (.tmp 97) (.tmp 101) 74 rfl _ _ _ rfl rfl r2 ?_ | refine wpList_append_run rfl (.tmp 104) (.tmp 110) 74 rfl _ _ _ rfl rfl r3 ?_)
              go_quiet (fail)
              go_wp2_with fail
              refine bodyPost_ret (v := .tuple #[.int .i64 (joinM m (newG ss rb)), .int .i64 (joinD m T now (newG ss rb)).gn, .int .i64 x.d.n, .int .i64 0]) (by simp [results, Tryz.results26, go_sem]) rfl (.inr ⟨HE0.out, by rw [HLD.out], ?_⟩)
              obtain ⟨⟨c9, A9, F9, V9, D9, k1, k2, k3⟩, k4⟩ := HFIN.out
              exact KK.later (w := w3.setCell ⟨q, 2, none⟩ (.slice A3 (F.length + 1) d9)) ⟨(KeepK.of_below HB4.out).trans k4, c9, A9, F9, V9, D9, k1, k2, k3⟩ (below_drewN (Below.refl _ _) nq)
  · rw [if_neg hE]
    have hE' : (joinE m T now (newG ss rb) != 0) = true := by unfold bne; rw [beq_eq_false_iff_ne.2 hE]; rfl
    have HE0 := Lib.hid hE
    clear hE
    go_wp2_with fail
    refine bodyPost_ret (v := .tuple #[.int .i64 0, .int .i64 0, .int .i64 0, .int .i64 (joinE m T now (newG ss rb))]) (by simp [results, Tryz.results26, go_sem]) rfl (.inl ⟨HE0.out, rfl, ?_⟩)
    exact ⟨KeepK.of_below HB4.out, c, A, F, V, D, (HH.out.later HB4.out).bump (by omega), fun _ => rfl, rfl⟩
end
end Go.Proofs.YtlokhhjhckiloaaGreat
/- coord: the program's coordinator and the document's, one beside the other; the calls of each. No condition but that calls are not too many. -/
namespace Go.Proofs.YtlokhhjhckiloaaGreat
open Go.RowKit Go.Maps Go.ChangeMaps Go.WideMaps
set_option linter.unusedVariables false
/-- What neither the program's calls nor the document's may write stays. -/
def KB (w w' : World) : Prop := ∀ (k : Nat) (o : Obj), w.heap[k]? = some o → ¬ badP o → ¬ badK o → w'.heap[k]? = some o
theorem KB.of_p {w w' : World} (h : KeepP w w') : KB w w' := fun k o hk hp _ => h k o hk hp
theorem KB.of_k {w w' : World} (h : KeepK w w') : KB w w' := fun k o hk _ hn => h k o hk hn
theorem KB.of_below {w w' : World} (hb : Below w.heap.size w w') : KB w w' := KB.of_p (KeepP.of_below hb)
theorem KB.refl (w : World) : KB w w := fun _ _ h _ _ => h
theorem KB.trans {w w' w'' : World} (h : KB w w') (h' : KB w' w'') : KB w w'' := fun k o hk hp hn => h' k o (h k o hk hp hn) hp hn
theorem KB.box {w w' : World} {b : Nat} {t : TypeId} {cs : Array Value} (h : KB w w') (hb : Box w b t cs) (h1 : t ≠ 109) (h2 : t ≠ 95) (h3 : ¬ kindK t) : Box w' b t cs := h b _ hb (badP_cells h1 h2) (badK_cells h3)
theorem KB.row {w w' : World} {base t size n : Nat} {v : Value} {xs : List Value} (h : KB w w') (hr : w.ownsRow base t size v n xs) (h1 : t ≠ 109) (h2 : t ≠ 95) (h3 : ¬ kindK t) : w'.ownsRow base t size v n xs := by
  refine ⟨hr.1, ?_⟩
  rcases hr.2 with h0 | ⟨g, cap, cur, hv, hb, hg, hx⟩
  · exact .inl h0
  · exact .inr ⟨g, cap, cur, hv, hb, h g _ hg (badP_cells h1 h2) (badK_cells h3), hx⟩
/-- The document's coordinator, wherever it stands: how its groups are, by name. -/
def Kx (W : World) (q t : Nat) (k ss rb : Int) (st : List UInt8 → Option GD) (n : Nat) (O : List Of.KE) (w : World) : Prop :=
  ∃ c A F V D, KO W w q c t A k ss rb F V D O ∧ (∀ s, gv F D s = st s) ∧ F.length = n
/-- Both. -/
def PA (W : World) (p q t : Nat) (k ss rb : Int) (st sk : List UInt8 → Option GD) (n nk : Nat) (O OK : List Of.KE) (w : World) : Prop := Cx W p k ss rb st n O w ∧ Kx W q t k ss rb sk nk OK w
/-- What Join tells, by how the groups are. -/
def joEs (s : ByteArray) (m : Int) (T : List ByteArray) (now : Int) (st : List UInt8 → Option GD) (n : Nat) (ss rb : Int) : Int :=
  if s.size < 1 ∨ 100 < s.size then 1 else match st s.data.toList with
    | some G => joinE m T now G
    | none => if 20 ≤ n then 5 else joinE m T now (newG ss rb)
def joGs (s : ByteArray) (st : List UInt8 → Option GD) (ss rb : Int) : GD := (st s.data.toList).getD (newG ss rb)
def joSt (s : ByteArray) (m : Int) (T : List ByteArray) (now : Int) (st : List UInt8 → Option GD) (n : Nat) (ss rb : Int) : List UInt8 → Option GD :=
  if joEs s m T now st n ss rb = 0 then putSt st s.data.toList (some (joinD m T now (joGs s st ss rb))) else st
def joV (s : ByteArray) (m : Int) (T : List ByteArray) (now : Int) (st : List UInt8 → Option GD) (n : Nat) (ss rb : Int) : Int × Int × Int :=
  if joEs s m T now st n ss rb = 0 then (joinM m (joGs s st ss rb), (joinD m T now (joGs s st ss rb)).gn, leadM (joinD m T now (joGs s st ss rb))) else (0, 0, 0)
section
variable {W w w' : World} {p q t : Nat} {k ss rb : Int} {st sk : List UInt8 → Option GD} {n nk : Nat} {O OK : List Of.KE}
theorem PA.elim (h : PA W p q t k ss rb st sk n nk O OK w) : ∃ g o og F V D c A F' V' D', CO W w p g o og k ss rb F F V D O ∧ KO W w q c t A k ss rb F' V' D' OK ∧ st = gv F D ∧ sk = gv F' D' ∧ n = F.length ∧ nk = F'.length := by
  obtain ⟨⟨g, o, og, F, V, D, h1, h2, h3⟩, c, A, F', V', D', k1, k2, k3⟩ := h
  exact ⟨g, o, og, F, V, D, c, A, F', V', D', h1, k1, (funext h2).symm, (funext k2).symm, h3.symm, k3.symm⟩
theorem PA.bel (h : PA W p q t k ss rb st sk n nk O OK w) : Below W.heap.size W w := h.1.bel
theorem PA.later (h : PA W p q t k ss rb st sk n nk O OK w) (hb : Below w.heap.size w w') : PA W p q t k ss rb st sk n nk O OK w' := by
  obtain ⟨h1, c, A, F', V', D', k1, k2, k3⟩ := h
  exact ⟨h1.later hb, c, A, F', V', D', k1.later hb, k2, k3⟩
theorem PA.bump {j : Int} (h : PA W p q t k ss rb st sk n nk O OK w) (hj : k ≤ j) : PA W p q t j ss rb st sk n nk O OK w := by
  obtain ⟨h1, c, A, F', V', D', k1, k2, k3⟩ := h
  exact ⟨h1.bump hj, c, A, F', V', D', k1.bump hj, k2, k3⟩
/-- The block of the document's table. -/
theorem PA.tab (h : PA W p q t k ss rb st sk n nk O OK w) : w.cell? ⟨q, 3, none⟩ = some (.pointer (some ⟨t, 0, none⟩)) := by
  obtain ⟨h1, c, A, F', V', D', k1, k2, k3⟩ := h
  exact k1.is.cells.2.2.2.1
theorem pa_ck {g o og c : Nat} {A : Option Addr} {F F' : List CE} {V' : Nat → Value} {D' : Nat → GD} {j : Int} {st' : List UInt8 → Option GD} {O' : List Of.KE} (hk : KO W w q c t A k ss rb F' V' D' OK) (hj : k ≤ j) (h : CK W w p g o og j ss rb F st' O' w') :
    PA W p q t j ss rb st' (gv F' D') F.length F'.length O' OK w' ∧ KB w w' := by
  obtain ⟨h1, V2, D2, h2, h3⟩ := h
  exact ⟨⟨⟨g, o, og, F, V2, D2, h2, h3, rfl⟩, c, A, F', V', D', (hk.keepP h1 h2.bel).bump hj, fun _ => rfl, rfl⟩, KB.of_p h1⟩
theorem pa_kk {g o og : Nat} {F : List CE} {V : Nat → Value} {D : Nat → GD} {j : Int} {n' : Nat} {sk' : List UInt8 → Option GD} {O' : List Of.KE} (hc : CO W w p g o og k ss rb F F V D O) (hj : k ≤ j) (h : KK W w q t j ss rb sk' n' O' w') :
    PA W p q t j ss rb (gv F D) sk' F.length n' O O' w' ∧ KB w w' := by
  obtain ⟨h1, c, A, F', V', D', h2, h3, h4⟩ := h
  exact ⟨⟨⟨g, o, og, F, V, D, (hc.keepK h1 h2.bel).bump hj, fun _ => rfl, rfl⟩, c, A, F', V', D', h2, h3, h4⟩, KB.of_k h1⟩
theorem put_same {st : List UInt8 → Option GD} {s : List UInt8} {g : Option GD} (h : st s = g) : putSt st s g = st := funext fun x => by
  unfold putSt
  split
  · rename_i e; rw [e, h]
  · rfl
theorem arg_far {g o og : Nat} {F : List CE} {V : Nat → Value} {D : Nat → GD} (h : CO W w p g o og k ss rb F F V D O) {a : Addr} (ha : a.block < W.heap.size) : ∀ e ∈ F, ¬ GrS e.blk (V e.blk) a.block := fun e he hs => by
  have := ((h.grp e he).lt _ hs).1
  omega
theorem str_lt {T : List ByteArray} {A : Option Addr} (hT : StrIn W A T) (hp : 0 < T.length) {a : Addr} (ha : A = some a) : a.block < W.heap.size := by
  obtain ⟨b, off, e, hlt, _⟩ := hT hp
  rw [e] at ha
  injection ha with ha
  rw [← ha]; exact hlt
theorem tp_lt {T : List TX} {A : Option Addr} (hT : TpIn W A T) (hp : 0 < T.length) {a : Addr} (ha : A = some a) : a.block < W.heap.size := by
  obtain ⟨b, off, e, hlt, _⟩ := hT hp
  rw [e] at ha
  injection ha with ha
  rw [← ha]; exact hlt
theorem joinD_no {m now : Int} {T : List ByteArray} {G : GD} (h : joinE m T now G ≠ 0) : joinD m T now G = G := by
  unfold joinD
  rw [if_neg h]
/-- The program's Join. -/
theorem pa_join (h : PA W p q t k ss rb st sk n nk O OK w) (hk : 0 ≤ k ∧ k ≤ 999000) (s : ByteArray) (hs : s.size ≤ 140737488351232) (m now : Int) (T : List ByteArray) (A2 : Option Addr) (c2 : Nat) (hT : StrIn W A2 T) (hTl : T.length ≤ 140737488351232) (hTz : ∀ s ∈ T, s.size ≤ 281474976710656) :
    Calls Tryz.prog 12 #[.pointer (some ⟨p, 0, none⟩), .string s, .int .i64 m, .slice A2 T.length c2, .int .i64 now] w (fun e w' => e = .returned (.tuple #[.agg #[.int .i64 (joV s m T now st n ss rb).1, .int .i64 (joV s m T now st n ss rb).2.1, .int .i64 (joV s m T now st n ss rb).2.2], .int .i64 (joEs s m T now st n ss rb)]) ∧ (∃ n', PA W p q t (k + 2) ss rb (joSt s m T now st n ss rb) sk n' nk O OK w') ∧ KB w w') := by
  obtain ⟨g, o, og, F, V, D, c, A, F', V', D', h1, k1, rfl, rfl, rfl, rfl⟩ := h.elim
  refine (cjoin_c h1 hk s hs m now T A2 c2 (hT.below h1.bel) hTl hTz (fun hp a ha => arg_far h1 (str_lt hT hp ha))).mono ?_
  rintro e w' ⟨hkp, ⟨he, rfl, V2, D2, h2, h3⟩ | ⟨he, F2, V2, D2, rfl, h2, h3, _⟩⟩
  · have hE : joEs s m T now (gv F D) F.length ss rb = joE s m T now F D ss rb := rfl
    refine ⟨?_, ⟨F.length, ⟨g, o, og, F, V2, D2, h2, fun x => ?_, rfl⟩, c, A, F', V', D', (k1.keepP hkp h2.bel).bump (by omega), fun _ => rfl, rfl⟩, KB.of_p hkp⟩
    · unfold joV
      rw [hE, if_neg he]
    · unfold joSt
      rw [hE, if_neg he]
      exact h3 x
  · have hE : joEs s m T now (gv F D) F.length ss rb = joE s m T now F D ss rb := rfl
    refine ⟨?_, ⟨F2.length, ⟨g, o, og, F2, V2, D2, h2, fun x => ?_, rfl⟩, c, A, F', V', D', (k1.keepP hkp h2.bel).bump (by omega), fun _ => rfl, rfl⟩, KB.of_p hkp⟩
    · unfold joV
      rw [hE, if_pos he, he]
      rfl
    · unfold joSt
      rw [hE, if_pos he]
      exact h3 x
/-- The document's Join. -/
theorem ka_join (h : PA W p q t k ss rb st sk n nk O OK w) (hk : 0 ≤ k ∧ k ≤ 999000) (s : ByteArray) (m now : Int) (T : List ByteArray) (A2 : Option Addr) (c2 : Nat) (hT : StrIn W A2 T) (hTA : A2 = none → T = []) (hTl : T.length ≤ 140737488351232) (hTz : ∀ s ∈ T, s.size ≤ 281474976710656) :
    Calls Tryz.prog 26 #[.pointer (some ⟨q, 0, none⟩), .string s, .int .i64 m, .slice A2 T.length c2, .int .i64 now] w (fun e w' => e = .returned (.tuple #[.int .i64 (joV s m T now sk nk ss rb).1, .int .i64 (joV s m T now sk nk ss rb).2.1, .int .i64 (joV s m T now sk nk ss rb).2.2, .int .i64 (joEs s m T now sk nk ss rb)]) ∧ (∃ n', PA W p q t (k + 2) ss rb st (joSt s m T now sk nk ss rb) n n' O OK w') ∧ KB w w') := by
  obtain ⟨g, o, og, F, V, D, c, A, F', V', D', h1, k1, rfl, rfl, rfl, rfl⟩ := h.elim
  have fin : ∀ {j : Int} {w' : World} {sk' : List UInt8 → Option GD} {n' : Nat}, k ≤ j → j ≤ k + 2 → KK W w q t j ss rb sk' n' OK w' → (∃ n', PA W p q t (k + 2) ss rb (gv F D) sk' F.length n' O OK w') ∧ KB w w' := fun hj hj2 hkk => by
    obtain ⟨h2, h3⟩ := pa_kk h1 hj hkk
    exact ⟨⟨_, h2.bump hj2⟩, h3⟩
  by_cases hs : s.size < 1 ∨ 100 < s.size
  · have hE : joEs s m T now (gv F' D') F'.length ss rb = 1 := by unfold joEs; rw [if_pos hs]
    refine (kojoin_arg s hs q m now _ w).mono ?_
    rintro e w' ⟨rfl, rfl⟩
    unfold joV joSt
    rw [hE, if_neg (by decide), if_neg (by decide)]
    refine ⟨rfl, ⟨F'.length, h.bump (by omega)⟩, KB.refl _⟩
  · have hs2 : 1 ≤ s.size ∧ s.size ≤ 100 := by omega
    cases hf : ofN F' s.data.toList with
    | none =>
      have hst : gv F' D' s.data.toList = none := by unfold gv; rw [hf]; rfl
      by_cases hl : 20 ≤ F'.length
      · have hE : joEs s m T now (gv F' D') F'.length ss rb = 5 := by unfold joEs; rw [if_neg hs, hst]; show (if 20 ≤ F'.length then (5 : Int) else _) = 5; rw [if_pos hl]
        refine (kojoin_full k1 s hs2 hf hl m now _).mono ?_
        rintro e w' ⟨rfl, hb⟩
        unfold joV joSt
        rw [hE, if_neg (by decide), if_neg (by decide)]
        exact ⟨rfl, ⟨F'.length, (h.later hb).bump (by omega)⟩, KB.of_below hb⟩
      · have hE : joEs s m T now (gv F' D') F'.length ss rb = joinE m T now (newG ss rb) := by unfold joEs; rw [if_neg hs, hst]; show (if 20 ≤ F'.length then (5 : Int) else _) = _; rw [if_neg hl]
        have hG : joGs s (gv F' D') ss rb = newG ss rb := by unfold joGs; rw [hst]; rfl
        refine (kojoin_new k1 hk s hs2 hf (by omega) m now T A2 c2 hT hTA hTl hTz).mono ?_
        rintro e w' (⟨he, rfl, hkk⟩ | ⟨he, rfl, hkk⟩)
        · unfold joV joSt
          rw [hE, if_neg he, if_neg he]
          exact ⟨rfl, fin (by omega) (by omega) hkk⟩
        · unfold joV joSt
          rw [hE, if_pos he, if_pos he, hG, he]
          exact ⟨rfl, fin (by omega) (by omega) hkk⟩
    | some e0 =>
      have hst : gv F' D' s.data.toList = some (D' e0.blk) := by unfold gv; rw [hf]; rfl
      have hE : joEs s m T now (gv F' D') F'.length ss rb = joinE m T now (D' e0.blk) := by unfold joEs; rw [if_neg hs, hst]
      have hG : joGs s (gv F' D') ss rb = D' e0.blk := by unfold joGs; rw [hst]; rfl
      refine (kojoin_old k1 hk s hs2 hf m now T A2 c2 hT hTA hTl hTz).mono ?_
      rintro e w' ⟨⟨he, rfl⟩ | ⟨he, rfl⟩, hkk⟩
      · unfold joV joSt
        rw [hE, if_neg he, if_neg he]
        rw [joinD_no he, put_same hst] at hkk
        exact ⟨rfl, fin (by omega) (by omega) hkk⟩
      · unfold joV joSt
        rw [hE, if_pos he, if_pos he, hG, he]
        exact ⟨rfl, fin (by omega) (by omega) hkk⟩
theorem pa_sync (h : PA W p q t k ss rb st sk n nk O OK w) (s : ByteArray) (hs : s.size ≤ 140737488351232) (m gen now : Int) (T : List TX) (A2 : Option Addr) (c2 : Nat) (round : Bool) (hT : TpIn W A2 T) (hTl : T.length ≤ 140737488351232) (hTz : ∀ t ∈ T, t.1.size ≤ 281474976710656) :
    Calls Tryz.prog 13 #[.pointer (some ⟨p, 0, none⟩), .string s, .int .i64 m, .int .i64 gen, .slice A2 T.length c2, .bool round, .int .i64 now] w (fun e w' => ∃ A c, e = .returned (.tuple #[.slice A (sycP (st s.data.toList) m gen T round now).length c, .int .i64 (sycE (st s.data.toList) m gen T now)]) ∧ w'.ownsRow w.heap.size 34 2 (.slice A (sycP (st s.data.toList) m gen T round now).length c) (sycP (st s.data.toList) m gen T round now).length (prtC (sycP (st s.data.toList) m gen T round now)) ∧
      PA W p q t k ss rb (putSt st s.data.toList ((st s.data.toList).map (syncD m gen T round now))) sk n nk O OK w' ∧ KB w w') := by
  obtain ⟨g, o, og, F, V, D, c, A, F', V', D', h1, k1, rfl, rfl, rfl, rfl⟩ := h.elim
  refine (sync_k h1 s (by unfold maxLen; omega) m gen now T A2 c2 round (hT.below h1.bel) hTl hTz (fun hp a ha => arg_far h1 (tp_lt hT hp ha))).mono ?_
  rintro e w' ⟨A3, c3, he, hr, hc⟩
  exact ⟨A3, c3, he, hr, pa_ck k1 (Int.le_refl _) hc⟩
theorem ka_sync (h : PA W p q t k ss rb st sk n nk O OK w) (s : ByteArray) (m gen now : Int) (T : List TX) (A2 : Option Addr) (c2 : Nat) (round : Bool) (hT : TpIn W A2 T) (hTl : T.length ≤ 140737488351232) (hTz : ∀ t ∈ T, t.1.size ≤ 281474976710656) :
    Calls Tryz.prog 27 #[.pointer (some ⟨q, 0, none⟩), .string s, .int .i64 m, .int .i64 gen, .slice A2 T.length c2, .bool round, .int .i64 now] w (fun e w' => ∃ A c P, e = .returned (.tuple #[.slice A P.length c, .int .i64 (sycE (sk s.data.toList) m gen T now)]) ∧ w'.ownsRow W.heap.size 34 2 (.slice A P.length c) P.length (prtC P) ∧
      PA W p q t k ss rb st (putSt sk s.data.toList ((sk s.data.toList).map (syncD m gen T round now))) n nk O OK w' ∧ KB w w') := by
  obtain ⟨g, o, og, F, V, D, c, A, F', V', D', h1, k1, rfl, rfl, rfl, rfl⟩ := h.elim
  refine (kosync_k k1 s m gen now T A2 c2 round hT hTl hTz).mono ?_
  rintro e w' ⟨A3, c3, P, he, hr, hc⟩
  exact ⟨A3, c3, P, he, hr, pa_kk h1 (Int.le_refl _) hc⟩
theorem pa_beat (h : PA W p q t k ss rb st sk n nk O OK w) (s : ByteArray) (hs : s.size ≤ 140737488351232) (m gen now : Int) :
    Calls Tryz.prog 16 #[.pointer (some ⟨p, 0, none⟩), .string s, .int .i64 m, .int .i64 gen, .int .i64 now] w (fun e w' => e = .returned (.int .i64 (beaCE (st s.data.toList) m gen now)) ∧ PA W p q t k ss rb (putSt st s.data.toList ((st s.data.toList).map (beatD m gen now))) sk n nk O OK w' ∧ KB w w') := by
  obtain ⟨g, o, og, F, V, D, c, A, F', V', D', h1, k1, rfl, rfl, rfl, rfl⟩ := h.elim
  refine (beat_k h1 s (by unfold maxLen; omega) m gen now).mono ?_
  rintro e w' ⟨he, hc⟩
  exact ⟨he, pa_ck k1 (Int.le_refl _) hc⟩
theorem ka_beat (h : PA W p q t k ss rb st sk n nk O OK w) (hk : k ≤ 999000) (s : ByteArray) (m gen now : Int) :
    Calls Tryz.prog 29 #[.pointer (some ⟨q, 0, none⟩), .string s, .int .i64 m, .int .i64 gen, .int .i64 now] w (fun e w' => e = .returned (.int .i64 (kbeCE (sk s.data.toList) m gen now)) ∧ PA W p q t k ss rb st (putSt sk s.data.toList ((sk s.data.toList).map (beatD m gen now))) n nk O OK w' ∧ KB w w') := by
  obtain ⟨g, o, og, F, V, D, c, A, F', V', D', h1, k1, rfl, rfl, rfl, rfl⟩ := h.elim
  refine (kobeat_k k1 hk s m gen now).mono ?_
  rintro e w' ⟨he, hc⟩
  exact ⟨he, pa_kk h1 (Int.le_refl _) hc⟩
theorem pa_leave (h : PA W p q t k ss rb st sk n nk O OK w) (hk : k ≤ 999000) (s : ByteArray) (hs : s.size ≤ 140737488351232) (m now : Int) :
    Calls Tryz.prog 17 #[.pointer (some ⟨p, 0, none⟩), .string s, .int .i64 m, .int .i64 now] w (fun e w' => e = .returned (.int .i64 (leaCE (st s.data.toList) m now)) ∧ PA W p q t (k + 1) ss rb (putSt st s.data.toList ((st s.data.toList).map (leaveD m now))) sk n nk O OK w' ∧ KB w w') := by
  obtain ⟨g, o, og, F, V, D, c, A, F', V', D', h1, k1, rfl, rfl, rfl, rfl⟩ := h.elim
  refine (leave_k h1 hk s (by unfold maxLen; omega) m now).mono ?_
  rintro e w' ⟨he, hc⟩
  exact ⟨he, pa_ck k1 (by omega) hc⟩
theorem ka_leave (h : PA W p q t k ss rb st sk n nk O OK w) (hk : k ≤ 999000) (s : ByteArray) (m now : Int) :
    Calls Tryz.prog 30 #[.pointer (some ⟨q, 0, none⟩), .string s, .int .i64 m, .int .i64 now] w (fun e w' => e = .returned (.int .i64 (kleCE (sk s.data.toList) m now)) ∧ PA W p q t (k + 1) ss rb st (putSt sk s.data.toList ((sk s.data.toList).map (kleaveD m now))) n nk O OK w' ∧ KB w w') := by
  obtain ⟨g, o, og, F, V, D, c, A, F', V', D', h1, k1, rfl, rfl, rfl, rfl⟩ := h.elim
  refine (koleave_k k1 hk s m now).mono ?_
  rintro e w' ⟨he, hc⟩
  exact ⟨he, pa_kk h1 (by omega) hc⟩
theorem pa_may (h : PA W p q t k ss rb st sk n nk O OK w) (s : ByteArray) (hs : s.size ≤ 140737488351232) (m gen : Int) :
    Calls Tryz.prog 18 #[.pointer (some ⟨p, 0, none⟩), .string s, .int .i64 m, .int .i64 gen] w (fun e w' => e = .returned (.int .i64 (mayCE (st s.data.toList) m gen)) ∧ PA W p q t k ss rb st sk n nk O OK w' ∧ KB w w') := by
  refine (may_x h.1 s (by unfold maxLen; omega) m gen).mono ?_
  rintro e w' ⟨he, hb⟩
  exact ⟨he, h.later hb, KB.of_below hb⟩
theorem ka_may (h : PA W p q t k ss rb st sk n nk O OK w) (s : ByteArray) (m gen : Int) :
    Calls Tryz.prog 31 #[.pointer (some ⟨q, 0, none⟩), .string s, .int .i64 m, .int .i64 gen] w (fun e w' => e = .returned (.int .i64 (mayCE (sk s.data.toList) m gen)) ∧ PA W p q t k ss rb st sk n nk O OK w' ∧ KB w w') := by
  obtain ⟨g, o, og, F, V, D, c, A, F', V', D', h1, k1, rfl, rfl, rfl, rfl⟩ := h.elim
  refine (komay_k k1 s m gen).mono ?_
  rintro e w' ⟨he, hb⟩
  exact ⟨he, h.later hb, KB.of_below hb⟩
theorem pa_commit (h : PA W p q t k ss rb st sk n nk O OK w) (s u : ByteArray) (i a : Int) :
    Calls Tryz.prog 19 #[.pointer (some ⟨p, 0, none⟩), .string s, .agg #[.string u, .int .i64 i], .int .i64 a] w (fun e w' => e = .returned (.int .i64 (Of.coR 1000 O ⟨s, u, i⟩ a)) ∧ PA W p q t k ss rb st sk n nk (Of.coS 1000 O ⟨s, u, i⟩ a) OK w' ∧ KB w w') := by
  obtain ⟨g, o, og, F, V, D, c, A, F', V', D', h1, k1, rfl, rfl, rfl, rfl⟩ := h.elim
  refine (commit_k h1 s u i a).mono ?_
  rintro e w' ⟨he, hc⟩
  exact ⟨he, pa_ck k1 (Int.le_refl _) hc⟩
theorem ka_commit (h : PA W p q t k ss rb st sk n nk O OK w) (s u : ByteArray) (i a : Int) (hs : s.size ≤ 140737488351232) (hu : u.size ≤ 140737488351232) :
    Calls Tryz.prog 32 #[.pointer (some ⟨t, 0, none⟩), .string s, .agg #[.string u, .int .i64 i], .int .i64 a] w (fun e w' => e = .returned (.int .i64 (Of.coR 1000 OK ⟨s, u, i⟩ a)) ∧ PA W p q t k ss rb st sk n nk O (Of.coS 1000 OK ⟨s, u, i⟩ a) w' ∧ KB w w') := by
  obtain ⟨g, o, og, F, V, D, c, A, F', V', D', h1, k1, rfl, rfl, rfl, rfl⟩ := h.elim
  refine (kocommit_k k1 ⟨s, u, i⟩ a hs hu).mono ?_
  rintro e w' ⟨he, hc⟩
  exact ⟨he, pa_kk h1 (Int.le_refl _) hc⟩
theorem pa_get (h : PA W p q t k ss rb st sk n nk O OK w) (s u : ByteArray) (i : Int) (hk : Of.KyOk ⟨s, u, i⟩) :
    Calls Tryz.prog 14 #[.pointer (some ⟨p, 0, none⟩), .string s, .agg #[.string u, .int .i64 i]] w (fun e w' => e = .returned (.tuple #[.int .i64 (Of.geR O ⟨s, u, i⟩).1, .bool (Of.geR O ⟨s, u, i⟩).2]) ∧ Below w.heap.size w w') := by
  obtain ⟨g, o, og, F, V, D, c, A, F', V', D', h1, k1, rfl, rfl, rfl, rfl⟩ := h.elim
  exact committed_k h1 s u i hk
theorem ka_get (h : PA W p q t k ss rb st sk n nk O OK w) (s u : ByteArray) (i : Int) (hk : Of.KyOk ⟨s, u, i⟩) :
    Calls Tryz.prog 33 #[.pointer (some ⟨t, 0, none⟩), .string s, .agg #[.string u, .int .i64 i]] w (fun e w' => e = .returned (.tuple #[.int .i64 (Of.geR OK ⟨s, u, i⟩).1, .bool (Of.geR OK ⟨s, u, i⟩).2]) ∧ Below w.heap.size w w') := by
  obtain ⟨g, o, og, F, V, D, c, A, F', V', D', h1, k1, rfl, rfl, rfl, rfl⟩ := h.elim
  exact koget_k k1 ⟨s, u, i⟩ hk
theorem pa_drop (h : PA W p q t k ss rb st sk n nk O OK w) (s : ByteArray) :
    Calls Tryz.prog 20 #[.pointer (some ⟨p, 0, none⟩), .string s] w (fun e w' => e = .returned (.int .i64 ((O.length : Int) - ((Of.outT O s).length : Int))) ∧ PA W p q t k ss rb st sk n nk (Of.outT O s) OK w' ∧ KB w w') := by
  obtain ⟨g, o, og, F, V, D, c, A, F', V', D', h1, k1, rfl, rfl, rfl, rfl⟩ := h.elim
  refine (drop_k h1 s).mono ?_
  rintro e w' ⟨he, hc⟩
  exact ⟨he, pa_ck k1 (Int.le_refl _) hc⟩
theorem ka_drop (h : PA W p q t k ss rb st sk n nk O OK w) (s : ByteArray) :
    Calls Tryz.prog 34 #[.pointer (some ⟨t, 0, none⟩), .string s] w (fun e w' => e = .returned (.int .i64 ((OK.length : Int) - ((Of.outT OK s).length : Int))) ∧ PA W p q t k ss rb st sk n nk O (Of.outT OK s) w' ∧ KB w w') := by
  obtain ⟨g, o, og, F, V, D, c, A, F', V', D', h1, k1, rfl, rfl, rfl, rfl⟩ := h.elim
  refine (kodrop_k k1 s).mono ?_
  rintro e w' ⟨he, hc⟩
  exact ⟨he, pa_kk h1 (Int.le_refl _) hc⟩
theorem pa_tick (h : PA W p q t k ss rb st sk n nk O OK w) (hk : k ≤ 998000) (now : Int) :
    Calls Tryz.prog 15 #[.pointer (some ⟨p, 0, none⟩), .int .i64 now] w (fun e w' => e = .returned (.tuple #[]) ∧ PA W p q t (k + 40) ss rb (fun s => (st s).map (tickD now)) sk n nk O OK w' ∧ KB w w') := by
  obtain ⟨g, o, og, F, V, D, c, A, F', V', D', h1, k1, rfl, rfl, rfl, rfl⟩ := h.elim
  refine (tick_k h1 hk now).mono ?_
  rintro e w' ⟨he, hc⟩
  exact ⟨he, pa_ck k1 (by omega) hc⟩
theorem ka_tick (h : PA W p q t k ss rb st sk n nk O OK w) (hk : k ≤ 998000) (now : Int) :
    Calls Tryz.prog 35 #[.pointer (some ⟨q, 0, none⟩), .int .i64 now] w (fun e w' => e = .returned (.tuple #[]) ∧ PA W p q t (k + 40) ss rb st (fun s => (sk s).map (ktickD now)) n nk O OK w' ∧ KB w w') := by
  obtain ⟨g, o, og, F, V, D, c, A, F', V', D', h1, k1, rfl, rfl, rfl, rfl⟩ := h.elim
  refine (kotick_k k1 hk now).mono ?_
  rintro e w' ⟨he, hc⟩
  exact ⟨he, pa_kk h1 (by omega) hc⟩
end
end Go.Proofs.YtlokhhjhckiloaaGreat
/- coord: a step of both coordinators, by a contract. No condition but that calls are not too many. -/
namespace Go.Proofs.YtlokhhjhckiloaaGreat
open Go.RowKit Go.Maps Go.ChangeMaps Go.WideMaps
set_option linter.unusedVariables false
theorem occ11 {w : World} {b : Nat} {t : TypeId} {x : OC} (h : Box w b t (ocL x).toArray) : w.cell? ⟨b, 0, none⟩ = some (.int .i64 x.do_) ∧ w.cell? ⟨b, 1, none⟩ = some (.string x.g) ∧ w.cell? ⟨b, 2, none⟩ = some (.int .i64 x.m) ∧ w.cell? ⟨b, 3, none⟩ = some (.slice x.TA x.T.length x.tc) ∧ w.cell? ⟨b, 4, none⟩ = some (.int .i64 x.gen) ∧ w.cell? ⟨b, 5, none⟩ = some (.slice x.PA x.P.length x.pc) ∧ w.cell? ⟨b, 6, none⟩ = some (.bool x.rnd) ∧ w.cell? ⟨b, 7, none⟩ = some (.string x.pt) ∧ w.cell? ⟨b, 8, none⟩ = some (.int .i64 x.pi) ∧ w.cell? ⟨b, 9, none⟩ = some (.int .i64 x.at_) ∧ w.cell? ⟨b, 10, none⟩ = some (.int .i64 x.now) ∧ b < w.heap.size :=
  ⟨(h.cell 0).trans rfl, (h.cell 1).trans rfl, (h.cell 2).trans rfl, (h.cell 3).trans rfl, (h.cell 4).trans rfl, (h.cell 5).trans rfl, (h.cell 6).trans rfl, (h.cell 7).trans rfl, (h.cell 8).trans rfl, (h.cell 9).trans rfl, (h.cell 10).trans rfl, h.lt⟩
theorem KB.op {w w' : World} {b : Nat} {cs : Array Value} (h : KB w w') (hb : Box w b 36 cs) : Box w' b 36 cs := h.box hb (by decide) (by decide) (by unfold kindK; decide)
/-- What a step makes of the program's groups, of the document's, and of a table. -/
def stepSt (x : OC) (gg : Int) (st : List UInt8 → Option GD) (n : Nat) (ss rb : Int) : List UInt8 → Option GD :=
  if x.do_ = 0 then joSt x.g x.m x.T x.now st n ss rb else if x.do_ = 1 then putSt st x.g.data.toList ((st x.g.data.toList).map (syncD x.m gg x.P x.rnd x.now)) else if x.do_ = 2 then putSt st x.g.data.toList ((st x.g.data.toList).map (beatD x.m gg x.now)) else if x.do_ = 3 then putSt st x.g.data.toList ((st x.g.data.toList).map (leaveD x.m x.now)) else if x.do_ = 4 ∨ x.do_ = 5 ∨ x.do_ = 6 then st else fun s => (st s).map (tickD x.now)
def stepSk (x : OC) (gg : Int) (st : List UInt8 → Option GD) (n : Nat) (ss rb : Int) : List UInt8 → Option GD :=
  if x.do_ = 0 then joSt x.g x.m x.T x.now st n ss rb else if x.do_ = 1 then putSt st x.g.data.toList ((st x.g.data.toList).map (syncD x.m gg x.P x.rnd x.now)) else if x.do_ = 2 then putSt st x.g.data.toList ((st x.g.data.toList).map (beatD x.m gg x.now)) else if x.do_ = 3 then putSt st x.g.data.toList ((st x.g.data.toList).map (kleaveD x.m x.now)) else if x.do_ = 4 ∨ x.do_ = 5 ∨ x.do_ = 6 then st else fun s => (st s).map (ktickD x.now)
def stepOO (x : OC) (c : Bool) (O : List Of.KE) : List Of.KE :=
  if x.do_ = 4 then (if c then Of.coS 1000 O ⟨x.g, x.pt, x.pi⟩ x.at_ else O) else if x.do_ = 6 then Of.outT O x.pt else O
/-- Where both answer alike. -/
def stepQ (x : OC) (gg : Int) (st sk : List UInt8 → Option GD) (n nk : Nat) (ss rb : Int) (O OK : List Of.KE) : Prop :=
  if x.do_ = 0 then joEs x.g x.m x.T x.now st n ss rb = joEs x.g x.m x.T x.now sk nk ss rb ∧ joV x.g x.m x.T x.now st n ss rb = joV x.g x.m x.T x.now sk nk ss rb
  else if x.do_ = 1 then False
  else if x.do_ = 2 then beaCE (st x.g.data.toList) x.m gg x.now = kbeCE (sk x.g.data.toList) x.m gg x.now
  else if x.do_ = 3 then leaCE (st x.g.data.toList) x.m x.now = kleCE (sk x.g.data.toList) x.m x.now
  else if x.do_ = 4 then mayCE (st x.g.data.toList) x.m gg = mayCE (sk x.g.data.toList) x.m gg ∧ Of.coR 1000 O ⟨x.g, x.pt, x.pi⟩ x.at_ = Of.coR 1000 OK ⟨x.g, x.pt, x.pi⟩ x.at_
  else if x.do_ = 5 then Of.geR O ⟨x.g, x.pt, x.pi⟩ = Of.geR OK ⟨x.g, x.pt, x.pi⟩
  else if x.do_ = 6 then O.length = OK.length ∧ (Of.outT O x.pt).length = (Of.outT OK x.pt).length
  else True
/-- What a step gives. -/
def StP (W w0 : World) (p q t : Nat) (k ss rb : Int) (x : OC) (st sk : List UInt8 → Option GD) (n nk : Nat) (O OK : List Of.KE) (e : Ending) (w' : World) : Prop :=
  ∃ (b c : Bool) (gg : Int) (n' nk' : Nat), e = .returned (.bool b) ∧ (stepQ x gg st sk n nk ss rb O OK → b = true) ∧ (c = true ∨ x.do_ = 4 ∧ mayCE (st x.g.data.toList) x.m gg ≠ mayCE (sk x.g.data.toList) x.m gg) ∧ PA W p q t (k + 80) ss rb (stepSt x gg st n ss rb) (stepSk x gg sk nk ss rb) n' nk' (stepOO x c O) (stepOO x c OK) w' ∧ KB w0 w'
/-- The group that is looked for, or none. -/
theorem ka_find {W w : World} {p q t : Nat} {k ss rb : Int} {st sk : List UInt8 → Option GD} {n nk : Nat} {O OK : List Of.KE} (h : PA W p q t k ss rb st sk n nk O OK w) (s : ByteArray) :
    Calls Tryz.prog 25 #[.pointer (some ⟨q, 0, none⟩), .string s] w (fun e w' => Below w.heap.size w w' ∧ ((∃ g G, e = .returned (.pointer (some ⟨g, 0, none⟩)) ∧ w'.cell? ⟨g, 3, none⟩ = some (.int .i64 G) ∧ g < w'.heap.size ∧ 0 ≤ G ∧ G ≤ k) ∨ e = .returned (.pointer none))) := by
  obtain ⟨g, o, og, F, V, D, c, A, F', V', D', h1, k1, rfl, rfl, rfl, rfl⟩ := h.elim
  refine (kofind_c k1.is (by have := k1.few; omega) s).mono ?_
  rintro e w' ⟨rfl, hb⟩
  refine ⟨hb, ?_⟩
  cases hf : ofN F' s.data.toList with
  | none => exact .inr rfl
  | some e0 =>
    obtain ⟨R, hR⟩ := (k1.grp e0 (ofN_mem hf).1).is
    have hq := (k1.grp e0 (ofN_mem hf).1).q
    have hx := (hR.later hb).box
    exact .inl ⟨e0.blk, (D' e0.blk).gn, rfl, (hx.cell 3).trans rfl, hx.lt, hq.gn.1, hq.gn.2⟩
section
variable {W w w' : World} {p q t : Nat} {k ss rb : Int} {st sk : List UInt8 → Option GD} {n nk : Nat} {O OK : List Of.KE}
/-- Both coordinators, and a call's own copy of what it is to do. -/
structure PO (W w0 : World) (p q t : Nat) (k ss rb : Int) (st sk : List UInt8 → Option GD) (n nk : Nat) (O OK : List Of.KE) (b : Nat) (x : OC) (w : World) : Prop where
  pa : PA W p q t k ss rb st sk n nk O OK w
  bx : Box w b 36 (ocL x).toArray
  kb : KB w0 w
theorem PO.cells2 {w0 : World} {b : Nat} {x : OC} (h : PO W w0 p q t k ss rb st sk n nk O OK b x w) : w.cell? ⟨b, 1, none⟩ = some (.string x.g) ∧ w.cell? ⟨b, 2, none⟩ = some (.int .i64 x.m) ∧ w.cell? ⟨b, 10, none⟩ = some (.int .i64 x.now) :=
  ⟨(h.bx.cell 1).trans rfl, (h.bx.cell 2).trans rfl, (h.bx.cell 10).trans rfl⟩
theorem PO.cells4 {w0 : World} {b : Nat} {x : OC} (h : PO W w0 p q t k ss rb st sk n nk O OK b x w) : w.cell? ⟨b, 1, none⟩ = some (.string x.g) ∧ w.cell? ⟨b, 2, none⟩ = some (.int .i64 x.m) ∧ w.cell? ⟨b, 7, none⟩ = some (.string x.pt) ∧ w.cell? ⟨b, 8, none⟩ = some (.int .i64 x.pi) ∧ w.cell? ⟨b, 9, none⟩ = some (.int .i64 x.at_) ∧ w.cell? ⟨q, 3, none⟩ = some (.pointer (some ⟨t, 0, none⟩)) :=
  ⟨(h.bx.cell 1).trans rfl, (h.bx.cell 2).trans rfl, (h.bx.cell 7).trans rfl, (h.bx.cell 8).trans rfl, (h.bx.cell 9).trans rfl, h.pa.tab⟩
theorem PO.cells6 {w0 : World} {b : Nat} {x : OC} (h : PO W w0 p q t k ss rb st sk n nk O OK b x w) : w.cell? ⟨b, 7, none⟩ = some (.string x.pt) ∧ w.cell? ⟨q, 3, none⟩ = some (.pointer (some ⟨t, 0, none⟩)) :=
  ⟨(h.bx.cell 7).trans rfl, h.pa.tab⟩
theorem syncP_len {m gen now : Int} {T : List TX} {round : Bool} {G : GD} (h : ∀ x ∈ (syncD m gen T round now G).L, TOk x.T ∧ POk x.P) : (syncP m gen T round now G).length ≤ 100000 := by
  unfold syncP
  split
  · cases posM m G.L with
    | none => exact Nat.zero_le _
    | some k =>
      show (partAt k _).length ≤ _
      unfold partAt
      cases hL : (syncD m gen T round now G).L[k]? with
      | none => exact Nat.zero_le _
      | some x => exact (h x (List.mem_of_getElem? hL)).2.1
  · exact Nat.zero_le _
theorem PA.sync_len {m gen now : Int} {T : List TX} {round : Bool} {s : List UInt8} (h : PA W p q t k ss rb (putSt st s ((st s).map (syncD m gen T round now))) sk n nk O OK w) : (sycP (st s) m gen T round now).length ≤ 100000 := by
  obtain ⟨⟨g, o, og, F, V, D, h1, h2, h3⟩, _⟩ := h
  cases hs : st s with
  | none => exact Nat.zero_le _
  | some G =>
    have h4 := h2 s
    unfold putSt at h4
    rw [if_pos rfl, hs] at h4
    unfold gv at h4
    cases hf : ofN F s with
    | none => rw [hf] at h4; cases h4
    | some e0 =>
      rw [hf] at h4
      have h5 : D e0.blk = syncD m gen T round now G := by
        injection h4
      exact syncP_len (by rw [← h5]; exact (h1.grp e0 (ofN_mem hf).1).q.all)
theorem str_none {T : List ByteArray} {A : Option Addr} (hT : StrIn W A T) (h : A = none) : T = [] := by
  cases T with
  | nil => rfl
  | cons a l =>
    obtain ⟨b, off, e, _⟩ := hT (by simp)
    rw [h] at e
    cases e
theorem OCk.ky {x : OC} (h : OCk w x) (s : ByteArray) (hs : s.size ≤ maxLen) : Of.KyOk ⟨s, x.pt, x.pi⟩ := ⟨hs, by have := h.pt; show x.pt.size ≤ maxLen; unfold maxLen; omega, h.pi⟩
end
end Go.Proofs.YtlokhhjhckiloaaGreat
