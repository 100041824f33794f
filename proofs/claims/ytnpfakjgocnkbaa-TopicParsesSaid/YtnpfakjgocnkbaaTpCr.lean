/- topic: Find, Create, Delete, by contracts. No condition. -/
import Derived.Test.YtnpfakjgocnkbaaTpG
import Derived.Test.YtnpfakjgocnkbaaPTake
namespace Go.Proofs.Ytnpfakjgocnkbaa
open Go.RowKit Go.Maps Go.ChangeMaps Go.WideMaps
set_option linter.unusedVariables false
theorem below_drewN {B : Nat} {a w : World} (h : Below B a w) (n : Nat) : Below B a (w.drewN n) := ⟨h.os, h.tape, h.output, h.size, h.block⟩
theorem witB_nm (s : ByteArray) : witB (s.size : Int) 1 100 = nmB s.data.toList := by
  have e : s.data.toList.length = s.size := by rw [Array.length_toList]; rfl
  unfold witB nmB
  rw [e]
  congr 1 <;> exact decide_eq_decide.2 (by omega)
/-- A table, and the blocks that it has. -/
def TI (p : Nat) (t : TS) (w : World) (S : Nat → Prop) : Prop := ∃ m, TbIs w p m t.1 t.2 ∧ S p ∧ ∀ k, m = some k → S k
theorem TI.off {p : Nat} {t : TS} {w w' : World} {S T : Nat → Prop} (h : TI p t w S) (ho : Off T w w') (hd : ∀ k, S k → ¬ T k) : TI p t w' S := by
  obtain ⟨m, h1, h2, h3⟩ := h
  exact ⟨m, h1.off ho (hd _ h2) (fun k hk => hd _ (h3 k hk)), h2, h3⟩
theorem TI.later {p : Nat} {t : TS} {w w' : World} {S : Nat → Prop} (h : TI p t w S) (hb : Below w.heap.size w w') : TI p t w' S := h.off (Off.of_below (fun _ => False) hb) (fun _ _ x => x)
theorem TI.mono {p : Nat} {t : TS} {w : World} {S T : Nat → Prop} (h : TI p t w S) (hs : ∀ k, S k → T k) : TI p t w T := by
  obtain ⟨m, h1, h2, h3⟩ := h
  exact ⟨m, h1, hs _ h2, fun k hk => hs _ (h3 k hk)⟩
theorem TI.tight {p : Nat} {t : TS} {w : World} {S : Nat → Prop} (h : TI p t w S) : TI p t w (fun k => S k ∧ k < w.heap.size) := by
  obtain ⟨m, h1, h2, h3⟩ := h
  refine ⟨m, h1, ⟨h2, h1.box.lt⟩, fun k hk => ⟨h3 k hk, ?_⟩⟩
  rcases h1.map with ⟨e, _⟩ | ⟨g, e, hm⟩
  · rw [e] at hk; cases hk
  · rw [e] at hk
    injection hk with hk
    subst hk
    exact hm.lt
/-- What a call that makes or lets go leaves. -/
def GotT (W : World) (p : Nat) (S : Nat → Prop) (r : Int × Int) (t : TS) (e : Ending) (w' : World) : Prop :=
  e = .returned (.tuple #[.int .i64 r.1, .int .i64 r.2]) ∧ TI p t w' (fun k => S k ∨ W.heap.size ≤ k) ∧ Off S W w'
theorem GotT.same {W w' : World} {p : Nat} {S : Nat → Prop} {t : TS} (r : Int × Int) (h : TI p t W S) (hb : Below W.heap.size W w') : GotT W p S r t (.returned (.tuple #[.int .i64 r.1, .int .i64 r.2])) w' :=
  ⟨rfl, (h.later hb).mono fun _ x => .inl x, Off.of_below S hb⟩
def fiV (r : Int × Int × Int) : Value := .tuple #[.int .i64 r.1, .int .i64 r.2.1, .int .i64 r.2.2]
theorem tfind_nil (s : ByteArray) (W : World) : Calls Try.prog 13 #[.pointer none, .string s] W (Good W (.tuple #[.int .i64 0, .int .i64 0, .int .i64 1])) := by
  go_enter Try.func13, Try.ntmps13
  go_wp2_with fail
  go_ret3
  exact ⟨rfl, Below.refl _ _⟩
set_option maxHeartbeats 4000000 in
set_option maxRecDepth 100000 in
theorem tfind_c (p : Nat) (m : Option Nat) (t : TS) (s : ByteArray) (W : World) (h : TbIs W p m t.1 t.2) (hs : s.size ≤ maxLen) : Calls Try.prog 13 #[dp p, .string s] W (Good W (fiV (fiR t s.data.toList))) := by
  obtain ⟨y0, y1, _⟩ := h.cells
  have hl := look_any h s hs true
  unfold fiR fiV
  unfold dp
  clear h
  cases hf : ofN t.2 s.data.toList with
  | none =>
    rw [hf] at hl
    unfold lookV lookB at hl
    simp only [if_true, Option.isSome_none] at hl
    go_enter Try.func13, Try.ntmps13
    go_wp2_with fail
    go_ret3
    exact ⟨rfl, (Below.refl _ _).alloc (Nat.le_refl _) _⟩
  | some e =>
    rw [hf] at hl
    unfold lookV lookB teV at hl
    simp only [if_true, Option.isSome_some] at hl
    go_enter Try.func13, Try.ntmps13
    go_wp2_with fail
    go_quiet (fail)
    go_wp2_with fail
    go_ret3
    exact ⟨rfl, below_drewN ((Below.refl _ _).alloc (Nat.le_refl _) _) _⟩
theorem tcreate_nil (s : ByteArray) (k : Int) (W : World) : Calls Try.prog 9 #[.pointer none, .string s, .int .i64 k] W (Good W (.tuple #[.int .i64 0, .int .i64 1])) := by
  go_enter Try.func9, Try.ntmps9
  go_wp2_with fail
  go_ret2
  exact ⟨rfl, Below.refl _ _⟩
theorem tdelete_nil (s : ByteArray) (W : World) : Calls Try.prog 11 #[.pointer none, .string s] W (Good W (.tuple #[.int .i64 0, .int .i64 1])) := by
  have c := tfind_nil s
  go_enter Try.func11, Try.ntmps11
  go_wp2_with fail
  with_reducible refine (c _).mono ?_
  rintro en w1 ⟨rfl, hb⟩
  go_wp2_with fail
  go_ret2
  exact ⟨rfl, hb⟩
set_option maxHeartbeats 8000000 in
set_option maxRecDepth 100000 in
theorem tcreate_c (p : Nat) (t : TS) (s : ByteArray) (k : Int) (W : World) (S : Nat → Prop) (h : TI p t W S) (hok : TOk t) (hs : s.size ≤ 140737488351232) :
    Calls Try.prog 9 #[dp p, .string s, .int .i64 k] W (GotT W p S (crR t s.data.toList k) (crS t s.data.toList k)) := by
  have cw := fun n l m w => within_c n l m w
  have HP := Lib.hid (fun (r : Int × Int) (w' : World) (hb : Below W.heap.size W w') => GotT.same r h hb)
  have hnm := witB_nm s
  have hkk : witB k 1 16 = (decide (1 ≤ k) && decide (k ≤ 16)) := rfl
  obtain ⟨r, hr⟩ : ∃ r, crR t s.data.toList k = r := ⟨_, rfl⟩
  have HT := Lib.hid h
  unfold crS
  rw [hr]
  unfold crR mayT at hr
  rw [← hnm, ← hkk] at hr
  clear hnm hkk
  unfold dp
  obtain ⟨m, h1, h2, h3⟩ := h
  obtain ⟨y0, y1, hlt⟩ := h1.cells
  have hl := look_any h1 s (by unfold maxLen; omega) true
  have hlen := len_run h1
  cases hw1 : witB (s.size : Int) 1 100 with
  | false =>
    rw [hw1] at hr
    simp only [Bool.false_and, if_true] at hr
    subst hr
    have c1 := cw (s.size : Int) 1 100
    rw [hw1] at c1
    clear hl hlen h1 h2 h3 hw1 cw HT
    go_enter Try.func9, Try.ntmps9
    go_wp2_with fail
    with_reducible refine (c1 _).mono ?_
    rintro en w1 ⟨rfl, rfl⟩
    go_wp2_with fail
    go_ret2
    exact HP.out _ _ (Below.refl _ _)
  | true =>
    rw [hw1] at hr
    have c1 := cw (s.size : Int) 1 100
    rw [hw1] at c1
    cases hw2 : witB k 1 16 with
    | false =>
      rw [hw2] at hr
      simp only [Bool.and_false, if_true] at hr
      subst hr
      have c2 := cw k 1 16
      rw [hw2] at c2
      clear hl hlen h1 h2 h3 hw1 hw2 cw HT
      go_enter Try.func9, Try.ntmps9
      go_wp2_with fail
      with_reducible refine (c1 _).mono ?_
      rintro en w1 ⟨rfl, rfl⟩
      go_wp2_with fail
      with_reducible refine (c2 _).mono ?_
      rintro en w1 ⟨rfl, rfl⟩
      go_wp2_with fail
      go_ret2
      exact HP.out _ _ (Below.refl _ _)
    | true =>
      rw [hw2] at hr
      simp only [Bool.and_true, Bool.true_eq_false, if_false] at hr
      have c2 := cw k 1 16
      rw [hw2] at c2
      clear hw1 hw2 cw
      cases hf : ofN t.2 s.data.toList with
      | some e =>
        rw [hf] at hr hl
        simp only [Option.isSome_some, if_true] at hr
        subst hr
        unfold lookV lookB teV at hl
        simp only [if_true, Option.isSome_some] at hl
        clear hlen h1 h2 h3 hf HT
        go_enter Try.func9, Try.ntmps9
        go_wp2_with fail
        with_reducible refine (c1 _).mono ?_
        rintro en w1 ⟨rfl, rfl⟩
        go_wp2_with fail
        with_reducible refine (c2 _).mono ?_
        rintro en w1 ⟨rfl, rfl⟩
        go_wp2_with fail
        go_ret2
        exact HP.out _ _ ((Below.refl _ _).alloc (Nat.le_refl _) _)
      | none =>
        rw [hf] at hr hl
        simp only [Option.isSome_none, Bool.false_eq_true, if_false] at hr
        unfold lookV lookB at hl
        simp only [if_true, Option.isSome_none] at hl
        have hlen1 := len_run (h1.later (w' := W.alloc (.cells #[.int .i64 0, .int .i64 0] 59)) ((Below.refl _ _).alloc (Nat.le_refl _) _))
        have hB1 : Below W.heap.size W (W.alloc (.cells #[.int .i64 0, .int .i64 0] 59)) := (Below.refl _ _).alloc (Nat.le_refl _) _
        by_cases hn20 : 20 ≤ t.2.length
        · have hfu : fullT t = true := by unfold fullT; rw [decide_eq_true hn20]; rfl
          rw [hfu] at hr
          simp only [if_true] at hr
          subst hr
          have hg : (20 : Int) ≤ (t.2.length : Int) := by omega
          clear hlen h1 h2 h3 hf HT hfu hn20
          go_enter Try.func9, Try.ntmps9
          go_wp2_with fail
          with_reducible refine (c1 _).mono ?_
          rintro en w1 ⟨rfl, rfl⟩
          go_wp2_with fail
          with_reducible refine (c2 _).mono ?_
          rintro en w1 ⟨rfl, rfl⟩
          go_wp2_with fail
          go_ret2
          exact HP.out _ _ hB1
        · by_cases hnx : 1073741824 ≤ t.1
          · have hfu : fullT t = true := by unfold fullT; rw [decide_eq_true hnx]; simp
            rw [hfu] at hr
            simp only [if_true] at hr
            subst hr
            have hg : ¬ (20 : Int) ≤ (t.2.length : Int) := by omega
            clear hlen h1 h2 h3 hf HT hfu hn20
            go_enter Try.func9, Try.ntmps9
            go_wp2_with fail
            with_reducible refine (c1 _).mono ?_
            rintro en w1 ⟨rfl, rfl⟩
            go_wp2_with fail
            with_reducible refine (c2 _).mono ?_
            rintro en w1 ⟨rfl, rfl⟩
            go_wp2_with fail
            go_ret2
            exact HP.out _ _ hB1
          · have hfu : fullT t = false := by unfold fullT; rw [decide_eq_false hn20, decide_eq_false hnx]; rfl
            rw [hfu] at hr
            simp only [Bool.false_eq_true, if_false] at hr
            subst hr
            have hg : ¬ (20 : Int) ≤ (t.2.length : Int) := by omega
            have hnn := hok.next
            have ccl := fun w => clone_c s w (by omega)
            have hbx := h1.box
            have fr0 := hbx.frozen 0
            have hA := Below.refl (W.setCell ⟨p, 0, none⟩ (.int .i64 (t.1 + 1))).heap.size (W.setCell ⟨p, 0, none⟩ (.int .i64 (t.1 + 1))) |>.alloc (Nat.le_refl _) (.cells #[.int .i64 0, .int .i64 0] 59)
            have hN0 : TbIs (W.setCell ⟨p, 0, none⟩ (.int .i64 (t.1 + 1))) p m (t.1 + 1) t.2 := by
              have ho : Off (fun k => k = p) W (W.setCell ⟨p, 0, none⟩ (.int .i64 (t.1 + 1))) := Off.one _ ⟨p, 0, none⟩ _
              refine ⟨hbx.set 0 _, ?_, h1.rise⟩
              rcases h1.map with h | ⟨g, h, hm⟩
              · exact .inl h
              · exact .inr ⟨g, h, map_off hm ho (fun e => box_ne_map hbx hm e.symm)⟩
            have hN1 := hN0.later hA
            have hO1 : Off S W ((W.setCell ⟨p, 0, none⟩ (.int .i64 (t.1 + 1))).alloc (.cells #[.int .i64 0, .int .i64 0] 59)) := ((Off.refl S W).set (.inl h2) _).alloc _
            have hput := fun w hw => tput_c p m (t.1 + 1) t.2 s ⟨s.data.toList, t.1, k⟩ w hw rfl (by unfold maxLen; omega) (by have := hok.many; omega)
            have HN1 := Lib.hid hN1
            have HO1 := Lib.hid hO1
            have H2 := Lib.hid h2
            have H3 := Lib.hid h3
            have HF := Lib.hid (minT_none hf)
            unfold dp at hput
            simp only at hput
            clear hlen h1 h2 h3 hf HT hfu hbx hN1 hN0 hA hO1 hok HP
            go_enter Try.func9, Try.ntmps9
            go_wp2_with fail
            with_reducible refine (c1 _).mono ?_
            rintro en w1 ⟨rfl, rfl⟩
            go_wp2_with fail
            with_reducible refine (c2 _).mono ?_
            rintro en w1 ⟨rfl, rfl⟩
            go_wp2_with fail
            with_reducible refine (ccl _).mono ?_
            rintro en w3 ⟨rfl, hb3⟩
            have HN3 := Lib.hid (HN1.out.later hb3)
            have HO3 := Lib.hid (HO1.out.later hb3)
            clear hb3 HN1 HO1 ccl y0 y1 fr0 hl hlen1
            go_wp2_with fail
            with_reducible refine (hput _ HN3.out).mono ?_
            rintro en w4 ⟨rfl, g, hT, ho, hg4⟩
            have HT4 := Lib.hid hT
            have HO4 := Lib.hid ho
            have hz := HO3.out.size
            clear hT ho hput
            go_wp2_with fail
            go_ret2
            refine ⟨rfl, ?_, HO3.out.trans HO4.out fun i _ hi => ?_⟩
            · show TI p (t.1 + 1, insT ⟨s.data.toList, t.1, k⟩ t.2) w4 _
              refine ⟨some g, ?_, .inl H2.out, fun k hk => ?_⟩
              · have := HT4.out
                unfold putT at this
                rw [HF.out] at this
                exact this
              · injection hk with hk
                subst hk
                rcases hg4 with e | e
                · exact .inl (H3.out _ e)
                · exact .inr (by omega)
            · rcases hi with e | e
              · rw [e]; exact H2.out
              · exact H3.out i e
set_option maxHeartbeats 8000000 in
set_option maxRecDepth 100000 in
theorem tdelete_c (p : Nat) (t : TS) (s : ByteArray) (W : World) (S : Nat → Prop) (h : TI p t W S) (hs : s.size ≤ 140737488351232) :
    Calls Try.prog 11 #[dp p, .string s] W (GotT W p S (deR t s.data.toList) (deS t s.data.toList)) := by
  have HP := Lib.hid (fun (r : Int × Int) (w' : World) (hb : Below W.heap.size W w') => GotT.same r h hb)
  obtain ⟨m, h1, h2, h3⟩ := h
  have hsm : s.size ≤ maxLen := by unfold maxLen; omega
  have cf := tfind_c p m t s W h1 hsm
  have H1 := Lib.hid h1
  unfold deR deS
  unfold fiR fiV at cf
  unfold dp at *
  cases hf : ofN t.2 s.data.toList with
  | none =>
    rw [hf] at cf
    rw [minT_none hf]
    simp only at cf
    clear h1 h2 h3 hf
    go_enter Try.func11, Try.ntmps11
    go_wp2_with fail
    with_reducible refine cf.mono ?_
    rintro en w1 ⟨rfl, hb⟩
    have HB := Lib.hid hb
    clear hb
    go_wp2_with fail
    go_ret2
    exact HP.out _ _ HB.out
  | some e =>
    rw [hf] at cf
    simp only at cf
    obtain ⟨g, hm, hown⟩ : ∃ g, m = some g ∧ W.ownsMap Try.prog 9 tokT g t.2.length (mapT t.2) := by
      rcases h1.map with ⟨_, h⟩ | h
      · rw [h] at hf; cases hf
      · exact h
    subst hm
    have hpg := box_ne_map h1.box hown
    have H2 := Lib.hid h2
    have H3 := Lib.hid h3
    have HW := Lib.hid hown
    clear h1 h2 h3 hf HP hown
    go_enter Try.func11, Try.ntmps11
    go_wp2_with fail
    with_reducible refine cf.mono ?_
    rintro en w1 ⟨rfl, hb⟩
    have hT1 := H1.out.later hb
    have hown1 := map_off HW.out (Off.of_below (fun _ => False) hb) (fun x => x)
    obtain ⟨_, y1, hlt⟩ := hT1.cells
    have HT1 := Lib.hid hT1
    have HB := Lib.hid hb
    clear hb hT1 cf
    go_wp2_with (at_delete; refine wpList_delete_own _ rfl _ _ 54 9 rfl 59 (string_keyed Try.underlying9) Try.underlying54 tokT g t.2.length (mapT t.2) rfl hown1 _ _ rfl (keyOf_string_mk Try.underlying9 hsm) ?_; intro w2 hown2 hturn2)
    go_ret2
    have hgr : Off (fun j => j = g) w1 w2 := by
      obtain ⟨es, clock, es', clock', hb, rfl⟩ := hturn2
      exact ⟨rfl, rfl, rfl, by simp [setBlock], fun i _ hi => heap_setBlock_other hb _ (fun e => hi e)⟩
    rw [mapT_del] at hown2
    refine ⟨rfl, ⟨some g, ⟨HT1.out.box.off hgr hpg, .inr ⟨g, rfl, map_tight hown2⟩, minT_rise HT1.out.rise⟩, .inl H2.out, fun k hk => .inl (H3.out k hk)⟩, (Off.of_below S HB.out).trans hgr fun i _ hi => ?_⟩
    rw [hi]
    exact H3.out g rfl
end Go.Proofs.Ytnpfakjgocnkbaa
