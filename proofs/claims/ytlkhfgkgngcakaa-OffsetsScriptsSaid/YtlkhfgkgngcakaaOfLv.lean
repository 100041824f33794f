/- offsets: live is true. No condition. -/
import Derived.Test.YtlkhfgkgngcakaaOfOt
namespace Go.Proofs.Ytlkhfgkgngcakaa
open Go.RowKit Go.Maps Go.ChangeMaps Go.WideMaps
set_option linter.unusedVariables false
def kl1 : KY := ⟨⟨#[103]⟩, ⟨#[116]⟩, 2⟩
def kl2 : KY := ⟨⟨#[104]⟩, ⟨#[116]⟩, 2⟩
theorem kl1_ok : enOk kl1 7 0 = true := by decide +kernel
theorem kl_ne : kyB kl2 ≠ kyB kl1 := by
  intro h
  have := kyB_inj (x := kl2) (y := kl1) (mayK_ok (by decide +kernel)) (mayK_ok (by decide +kernel)) h
  exact absurd (congrArg KY.g this) (by decide +kernel)
theorem live_apply : apE 1 [] (enRec kl1 7 0) = 0 ∧ apS 1 [] (enRec kl1 7 0) = [(kl1, 7)] := by
  obtain ⟨h1, h2, h3⟩ := cm_of kl1_ok
  unfold apE apS
  rw [h3, h1, h2]
  have hc : coR 1 [] kl1 7 = 0 := by
    unfold coR
    rw [if_pos (by decide +kernel)]
    rfl
  rw [if_pos rfl, if_pos rfl, if_neg (by decide), if_neg (by decide), hc]
  refine ⟨rfl, ?_⟩
  unfold coS
  rw [hc, if_pos rfl]
  rfl
theorem live_get : geR [(kl1, 7)] kl1 = (7, true) := by
  unfold geR ofK
  rw [List.find?_cons_of_pos (by simp)]
theorem live_full : coR 1 [(kl1, 7)] kl2 1 = 5 ∧ coS 1 [(kl1, 7)] kl2 1 = [(kl1, 7)] := by
  have h : ofK [(kl1, 7)] (kyB kl2) = none := by
    unfold ofK
    rw [List.find?_cons_of_neg (by simp; exact fun e => kl_ne e.symm)]
    rfl
  have hc : coR 1 [(kl1, 7)] kl2 1 = 5 := by
    unfold coR
    rw [if_pos (by decide +kernel), h]
    rfl
  refine ⟨hc, ?_⟩
  unfold coS
  rw [hc]
  rfl
theorem live_forget : (([(kl1, 7)] : List KE).length : Int) - ((outG [(kl1, 7)] ⟨#[103]⟩).length : Int) = 1 := by
  unfold outG
  rw [List.filter_cons_of_neg (by decide +kernel)]
  rfl
theorem live_key : (enRec kl1 7 0) = ⟨0, 0, false, ⟨#[2, 103, 2, 116, 4]⟩, false, ⟨#[14]⟩, []⟩ := by
  unfold enRec
  rw [show (⟨(enKey kl1).toArray⟩ : ByteArray) = ⟨#[2, 103, 2, 116, 4]⟩ by decide +kernel, show (⟨(putL 7).toArray⟩ : ByteArray) = ⟨#[14]⟩ by decide +kernel]
  rfl
/-- The tables and boxes of live. -/
structure LvI (W : World) (p g k q : Nat) (F : List KE) (w : World) : Prop where
  ot : OT W p g 1 F w
  kb : Box w k 45 #[.string ⟨#[103]⟩, .string ⟨#[116]⟩, .int .i64 2]
  rb : Box w q 34 #[.int .i64 0, .int .i64 0, .bool false, .string ⟨#[2, 103, 2, 116, 4]⟩, .bool false, .string ⟨#[14]⟩, .slice none 0 0]
  below : Below W.heap.size W w
theorem LvI.later {W w w' : World} {p g k q : Nat} {F : List KE} (h : LvI W p g k q F w) (hb : Below w.heap.size w w') : LvI W p g k q F w' := ⟨h.ot.later hb, h.kb.later hb, h.rb.later hb, h.below.trans (hb.mono h.below.size)⟩
theorem LvI.wr {W w w' : World} {p g k q : Nat} {F G : List KE} (h : LvI W p g k q F w) (hw : Wr W p g 1 G w w') : LvI W p g k q G w' := by
  have n1 := box_ne_map h.kb h.ot.is.map
  have n2 := box_ne_map h.rb h.ot.is.map
  exact ⟨hw.ot, h.kb.off hw.off n1, h.rb.off hw.off n2, h.ot.below hw h.below⟩
set_option maxHeartbeats 8000000 in
set_option maxRecDepth 100000 in
theorem live_c (W : World) : Calls Try.prog 9 #[] W (Yes W) := by
  have n1 := new_v W W 1 (by omega) (by omega) (Nat.le_refl _)
  have n0 := fun w => new_no 0 (by decide +kernel) w
  have ce : ∀ w, Calls Try.prog 18 #[.agg #[.string ⟨#[103]⟩, .string ⟨#[116]⟩, .int .i64 2], .int .i64 7, .int .i64 0] w (Good w (.tuple #[.agg #[.int .i64 0, .int .i64 0, .bool false, .string ⟨#[2, 103, 2, 116, 4]⟩, .bool false, .string ⟨#[14]⟩, .slice none 0 0], .int .i64 0])) := fun w => by
    have h := entry_c kl1 7 0 w
    unfold enR enE at h
    rw [if_pos kl1_ok, if_pos kl1_ok, live_key] at h
    exact h
  have ca : ∀ w p g, OT W p g 1 [] w → Calls Try.prog 17 #[.pointer (some ⟨p, 0, none⟩), .agg #[.int .i64 0, .int .i64 0, .bool false, .string ⟨#[2, 103, 2, 116, 4]⟩, .bool false, .string ⟨#[14]⟩, .slice none 0 0]] w (fun e w' => e = .returned (.int .i64 0) ∧ Wr W p g 1 [(kl1, 7)] w w') := fun w p g h => by
    have h1 := apply_v h (enRec kl1 7 0) none 0 (rin_nil w _ rfl (by decide +kernel) (by decide +kernel))
    rw [live_apply.1, live_apply.2, live_key] at h1
    exact h1
  have cg : ∀ w p g, OT W p g 1 [(kl1, 7)] w → Calls Try.prog 12 #[.pointer (some ⟨p, 0, none⟩), .agg #[.string ⟨#[103]⟩, .string ⟨#[116]⟩, .int .i64 2]] w (fun e w' => e = .returned (.tuple #[.int .i64 7, .bool true]) ∧ Below w.heap.size w w') := fun w p g h => by
    have h1 := get_v h kl1 (mayK_ok (by decide +kernel))
    rw [live_get] at h1
    exact h1
  have cc : ∀ w p g, OT W p g 1 [(kl1, 7)] w → Calls Try.prog 13 #[.pointer (some ⟨p, 0, none⟩), .agg #[.string ⟨#[104]⟩, .string ⟨#[116]⟩, .int .i64 2], .int .i64 1] w (fun e w' => e = .returned (.int .i64 5) ∧ Wr W p g 1 [(kl1, 7)] w w') := fun w p g h => by
    have h1 := commit_v h kl2 1
    rw [live_full.1, live_full.2] at h1
    exact h1
  have cf : ∀ w p g, OT W p g 1 [(kl1, 7)] w → Calls Try.prog 14 #[.pointer (some ⟨p, 0, none⟩), .string ⟨#[103]⟩] w (fun e w' => e = .returned (.int .i64 1) ∧ Wr W p g 1 (outG [(kl1, 7)] ⟨#[103]⟩) w w') := fun w p g h => by
    have h1 := forget_v h ⟨#[103]⟩
    rw [live_forget] at h1
    exact h1
  generalize hF1 : ([(kl1, 7)] : List KE) = F1 at *
  clear hF1
  go_enter Try.func9, Try.ntmps9
  go_wp2_with fail
  with_reducible refine n1.mono ?_
  rintro en w1 ⟨p, g, rfl, hot, _, _, _, _, hb⟩
  have HB := Lib.hid hb
  have HT := Lib.hid hot
  clear hot hb n1
  go_wp2_with fail
  with_reducible refine (n0 _).mono ?_
  rintro en w2 ⟨rfl, rfl⟩
  clear n0
  have hk := Box.new w2 45 #[.string ⟨#[103]⟩, .string ⟨#[116]⟩, .int .i64 2]
  have HK := Lib.hid hk
  obtain ⟨y0, y1, y2, yl, _, _, _⟩ := ky3 hk
  have hba := (Below.refl w2.heap.size w2).alloc (Nat.le_refl _) (.cells #[.string ⟨#[103]⟩, .string ⟨#[116]⟩, .int .i64 2] 45)
  have HT2 := Lib.hid (HT.out.later hba)
  have HB2 := Lib.hid (HB.out.trans (hba.mono HB.out.size))
  clear hk hba HT HB
  go_wp2_with fail
  with_reducible refine (ce _).mono ?_
  rintro en w3 ⟨rfl, hb⟩
  have hba := (Below.refl w3.heap.size w3).alloc (Nat.le_refl _) (.cells #[.int .i64 0, .int .i64 0, .bool false, .string ⟨#[2, 103, 2, 116, 4]⟩, .bool false, .string ⟨#[14]⟩, .slice none 0 0] 34)
  have hbb := hb.trans (hba.mono hb.size)
  have HI : Hid (LvI W p g w2.heap.size w3.heap.size [] (w3.alloc (.cells #[.int .i64 0, .int .i64 0, .bool false, .string ⟨#[2, 103, 2, 116, 4]⟩, .bool false, .string ⟨#[14]⟩, .slice none 0 0] 34))) := Lib.hid ⟨HT2.out.later hbb, HK.out.later hbb, Box.new _ _ _, HB2.out.trans (hbb.mono HB2.out.size)⟩
  clear hb hba hbb HT2 HB2 HK y0 y1 y2 yl ce
  obtain ⟨y0, y1, y2, yl, _, _, _⟩ := ky3 HI.out.kb
  obtain ⟨⟨r0, r1, r2, r3, r4, r5, r6⟩, _, rl⟩ := box7 HI.out.rb
  have ca1 := ca _ p g HI.out.ot
  clear ca
  go_wp2_with fail
  with_reducible refine ca1.mono ?_
  generalize w2.heap.size = kb at *
  generalize w3.heap.size = rb at *
  rintro en w4 ⟨rfl, hw⟩
  have HI4 := Lib.hid (HI.out.wr hw)
  clear hw ca1 HI y0 y1 y2 yl r0 r1 r2 r3 r4 r5 r6 rl
  obtain ⟨y0, y1, y2, yl, _, _, _⟩ := ky3 HI4.out.kb
  have cg1 := cg _ p g HI4.out.ot
  clear cg
  go_wp2_with fail
  with_reducible refine cg1.mono ?_
  rintro en w5 ⟨rfl, hb⟩
  have HI5 := Lib.hid (HI4.out.later hb)
  clear hb cg1 HI4 y0 y1 y2 yl
  obtain ⟨y0, y1, y2, yl, _, _, _⟩ := ky3 HI5.out.kb
  have cc1 := cc _ p g HI5.out.ot
  clear cc
  go_wp2_with fail
  with_reducible refine cc1.mono ?_
  rintro en w6 ⟨rfl, hw⟩
  have HI6 := Lib.hid (HI5.out.wr hw)
  clear hw cc1 HI5 y0 y1 y2 yl
  obtain ⟨⟨r0, r1, r2, r3, r4, r5, r6⟩, _, rl⟩ := box7 HI6.out.rb
  have cf1 := cf _ p g HI6.out.ot
  clear cf
  go_wp2_with fail
  with_reducible refine cf1.mono ?_
  rintro en w7 ⟨rfl, hw⟩
  have HI7 := Lib.hid (HI6.out.wr hw)
  clear hw cf1 HI6 r0 r1 r2 r3 r4 r5 r6 rl
  go_wp2_with fail
  go_ret
  exact ⟨rfl, HI7.out.below⟩
end Go.Proofs.Ytlkhfgkgngcakaa
