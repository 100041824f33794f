/- topic: the law TopicIds walks to true. No condition. -/
import Derived.Test.YtnpfakjgocnkbaaTpLv
import Derived.Test.YtnpfakjgocnkbaaTpOp
namespace Go.Proofs.Ytnpfakjgocnkbaa
open Go.RowKit
set_option linter.unusedVariables false
theorem KeepO.box {w w' : World} {b : Nat} {t : TypeId} {cs : Array Value} (h : KeepO badT w w') (hb : Box w b t cs) (h1 : t ≠ 56) : Box w' b t cs := h b _ hb (fun hh => h1 hh)
theorem ofN_ins {F : List TE} {s : List UInt8} {n k : Int} (h : ofN F s = none) : ofN (insT ⟨s, n, k⟩ F) s = some ⟨s, n, k⟩ := by
  unfold ofN at *
  induction F with
  | nil => simp [insT]
  | cons y r ih =>
    rw [List.find?_eq_none] at h
    have hy := h y (by simp)
    have hr : r.find? (fun e => e.name == s) = none := List.find?_eq_none.2 fun z hz => h z (by simp [hz])
    unfold insT
    split
    · rw [List.find?_cons]; simp
    · rw [List.find?_cons]
      have : (y.name == s) = false := by simpa using hy
      rw [this]
      exact ih hr
theorem fi_cr {t : TS} {s : List UInt8} {k : Int} (h : (crR t s k).2 = 0) : fiR (crS t s k) s = (t.1, k, 0) ∧ (crR t s k) = (t.1, 0) ∧ (crS t s k).1 = t.1 + 1 := by
  obtain ⟨_, h2, _, h4⟩ := crR_ok h
  unfold crS fiR
  rw [if_pos h]
  refine ⟨?_, h4, rfl⟩
  show (match ofN (insT ⟨s, t.1, k⟩ t.2) s with | some e => _ | none => _) = _
  rw [ofN_ins h2]
theorem crS_next {t : TS} {s : List UInt8} {k : Int} : t.1 ≤ (crS t s k).1 := by
  unfold crS
  split
  · show t.1 ≤ t.1 + 1; omega
  · exact Int.le_refl _
set_option maxHeartbeats 16000000 in
set_option maxRecDepth 100000 in
theorem topicIds_walk (A : Option Addr) (c : Nat) (L : List OT) (W : World) (hL : OtsIn W A L) : Calls Try.prog 5 #[.slice A L.length c] W (Yes W) := by
  have cn := new_c W
  have hP := TO.new (W := W) (Below.refl _ W)
  have HP := Lib.hid hP
  have HL := Lib.hid hL
  have cl := fun w => live_c w
  unfold dp at cn
  unfold Yes at cl
  clear hP hL
  go_enter Try.func5, Try.ntmps5
  go_wp2_with fail
  with_reducible refine cn.mono ?_
  rintro en w0 ⟨rfl, rfl⟩
  generalize (W.alloc (.cells #[.int .i64 0, .map none] 56)) = w0 at *
  clear cn
  generalize hp : W.heap.size = p at *
  have HQ := Lib.hid hp
  clear hp
  go_wp2_with fail
  go_loopw [4, 5] (fun l i wr => ∃ (k : Nat) (last : Int) (t : TS), l = .int .i64 last ∧ i = .int .i64 k ∧ k ≤ L.length ∧ k ≤ 60 ∧ last < t.1 ∧ TO W p t wr) (fun _ i _ => 60 - (intOf i).toNat)
  case atStart => exact ⟨0, -1, (0, []), rfl, rfl, Nat.zero_le _, Nat.zero_le _, by decide, HP.out⟩
  case round =>
    obtain ⟨k, last, t, rfl, rfl, hk1, hk2, hlt, hT⟩ := hrel
    have HT := Lib.hid hT
    clear hT HP
    by_cases hkl : k < L.length
    · by_cases hk60 : k < 60
      · obtain ⟨x, hx⟩ : ∃ x, L[k]? = some x := ⟨_, List.getElem?_eq_getElem hkl⟩
        obtain ⟨b, off, rfl, hbl, z0, z1, z2, hxs⟩ := HL.out.at_ HT.out.bel hx
        have hi0 : (0 : Int) ≤ (k : Int) := by omega
        have hi1 : (k : Int) < (L.length : Int) := by omega
        have hi2 : (k : Int) < 60 := by omega
        have HK1 := Lib.hid hkl
        have HT1 := Lib.hid (HT.out.later ((Below.refl wr.heap.size wr).alloc (Nat.le_refl _) (.cells #[.int .i64 x.do_, .string x.name, .int .i64 x.parts] 30)))
        have HB1 := Lib.hid (Box.new wr 30 #[.int .i64 x.do_, .string x.name, .int .i64 x.parts])
        by_cases hd : x.do_ = 1
        · have hd1 : (x.do_ == (1 : Int)) = true := by rw [hd]; rfl
          obtain ⟨r, hr⟩ : ∃ r, deR t x.name.data.toList = r := ⟨_, rfl⟩
          obtain ⟨n, e⟩ := r
          have cd := delete_v HT1.out x.name hxs hr rfl
          clear hr hx hd
          go_wp2_with fail
          with_reducible refine cd.mono ?_
          rintro en w2 ⟨rfl, h2, _⟩
          have H2 := Lib.hid h2
          clear h2 cd z0 z1 z2
          go_wp2_with fail
          go_roundw
          case rel => exact ⟨k + 1, last, deS t x.name.data.toList, rfl, by go_num, hkl, hk60, hlt, H2.out⟩
          case measure => simp [intOf]; omega
        · have hd1 : (x.do_ == (1 : Int)) = false := by simp [hd]
          obtain ⟨r, hr⟩ : ∃ r, crR t x.name.data.toList x.parts = r := ⟨_, rfl⟩
          obtain ⟨t', ht'⟩ : ∃ t', crS t x.name.data.toList x.parts = t' := ⟨_, rfl⟩
          have hnx : t.1 ≤ t'.1 := by rw [← ht']; exact crS_next
          obtain ⟨n, e⟩ := r
          have cc := create_v HT1.out x.name x.parts hxs hr ht'
          by_cases he : e = 0
          · subst he
            obtain ⟨f1, f2, f3⟩ := fi_cr (t := t) (s := x.name.data.toList) (k := x.parts) (by rw [hr])
            rw [ht'] at f1 f3
            rw [hr] at f2
            injection f2 with f2
            subst f2
            have HF := Lib.hid f1
            have hl2 : t.1 < t'.1 := by omega
            have hgt : ¬ t.1 ≤ last := by omega
            clear hr hx hd f1 f3 ht'
            go_wp2_with fail
            with_reducible refine cc.mono ?_
            rintro en w2 ⟨rfl, h2, hk2'⟩
            have H2 := Lib.hid h2
            have hbx := hk2'.box HB1.out (by decide)
            have y0 := (hbx.cell 0).trans (show _ = some (Value.int .i64 x.do_) from rfl)
            have y1 := (hbx.cell 1).trans (show _ = some (Value.string x.name) from rfl)
            have y2 := (hbx.cell 2).trans (show _ = some (Value.int .i64 x.parts) from rfl)
            have hbl2 := hbx.lt
            have HX2 := Lib.hid hbx
            have cf := find_v H2.out x.name hxs HF.out
            clear h2 hk2' cc z0 z1 z2 hbx
            go_wp2_with fail
            with_reducible refine cf.mono ?_
            rintro en w3 ⟨rfl, h3, hb3⟩
            have H3 := Lib.hid h3
            have hbx := HX2.out.later hb3
            have v2 := (hbx.cell 2).trans (show _ = some (Value.int .i64 x.parts) from rfl)
            have hbl3 := hbx.lt
            clear h3 hb3 cf y0 y1 y2 hbx
            go_wp2_with fail
            go_roundw
            case rel => exact ⟨k + 1, t.1, t', rfl, by go_num, hkl, hk60, hl2, H3.out⟩
            case measure => simp [intOf]; omega
          · have he1 : (e == (0 : Int)) = false := by simp [he]
            clear hr hx hd ht' he
            go_wp2_with fail
            with_reducible refine cc.mono ?_
            rintro en w2 ⟨rfl, h2, _⟩
            have H2 := Lib.hid h2
            clear h2 cc z0 z1 z2
            go_wp2_with fail
            go_roundw
            case rel => exact ⟨k + 1, last, t', rfl, by go_num, hkl, hk60, by omega, H2.out⟩
            case measure => simp [intOf]; omega
      · have hi1 : (k : Int) < (L.length : Int) := by omega
        have hi2 : ¬ (k : Int) < 60 := by omega
        clear hk60
        go_wp2_with fail
        with_reducible refine (cl _).mono ?_
        rintro en w5 ⟨rfl, hb⟩
        have HB := Lib.hid (HT.out.later hb)
        clear hb
        go_wp2_with fail
        go_ret
        exact ⟨rfl, HB.out.bel⟩
    · have hi1 : ¬ (k : Int) < (L.length : Int) := by omega
      clear hkl
      go_wp2_with fail
      with_reducible refine (cl _).mono ?_
      rintro en w5 ⟨rfl, hb⟩
      have HB := Lib.hid (HT.out.later hb)
      clear hb
      go_wp2_with fail
      go_ret
      exact ⟨rfl, HB.out.bel⟩
end Go.Proofs.Ytnpfakjgocnkbaa
