/- topic: a table of the call's own; what the document's examples say. No condition. -/
import Derived.Test.YtnpfakjgocnkbaaTpPa
namespace Go.Proofs.Ytnpfakjgocnkbaa
open Go.RowKit
set_option linter.unusedVariables false
/-- A table of the call's own: what was there ahead is as it was. -/
structure TO (W : World) (p : Nat) (t : TS) (w : World) : Prop where
  is : TI p t w (fun k => W.heap.size ≤ k)
  ok : TOk t
  bel : Below W.heap.size W w
theorem TO.later {W w w' : World} {p : Nat} {t : TS} (h : TO W p t w) (hb : Below w.heap.size w w') : TO W p t w' := ⟨h.is.later hb, h.ok, h.bel.trans (hb.mono h.bel.size)⟩
theorem TO.new {W w : World} (hb : Below W.heap.size W w) : TO W w.heap.size (0, []) (w.alloc (.cells #[.int .i64 0, .map none] 56)) :=
  ⟨⟨none, new_is w, hb.size, fun k hk => by cases hk⟩, TOk.new, hb.trans (((Below.refl _ _).alloc (Nat.le_refl _) _).mono hb.size)⟩
/-- What the program's table may write: its own kinds of blocks. -/
def badT (o : Obj) : Prop := match o with
  | .cells _ t _ => t = 56
  | .map _ _ => True
  | _ => False
def KeepO (bad : Obj → Prop) (w w' : World) : Prop := ∀ (k : Nat) (o : Obj), w.heap[k]? = some o → ¬ bad o → w'.heap[k]? = some o
theorem KeepO.of_below {bad : Obj → Prop} {w w' : World} (hb : Below w.heap.size w w') : KeepO bad w w' := fun k o hk _ => (hb.block k (lt_of_there hk)).trans hk
theorem TI.keepO {p : Nat} {t : TS} {w w' : World} {S : Nat → Prop} (h : TI p t w S) (ho : ∀ T : Nat → Prop, (T p ∧ ∀ m, TbIs w p m t.1 t.2 → ∀ k, m = some k → T k) → Off T w w') : KeepO badT w w' := by
  obtain ⟨m, h1, _, _⟩ := h
  have hO := ho (fun k => k = p ∨ m = some k) ⟨.inl rfl, fun m' h' k hk => .inr (by
    have e1 := (h1.box.cell 1).symm.trans (h'.box.cell 1)
    have e2 : (some (Value.map m) : Option Value) = some (Value.map m') := e1
    injection e2 with e2
    injection e2 with e2
    rw [e2]; exact hk)⟩
  intro k o hk hb
  refine (hO.block k (lt_of_there hk) ?_).trans hk
  rintro (rfl | hm)
  · have := h1.box
    unfold Box at this
    rw [hk] at this
    injection this with this
    subst this
    exact hb rfl
  · rcases h1.map with ⟨e, _⟩ | ⟨g, e, hm2⟩
    · rw [e] at hm; cases hm
    · rw [e] at hm
      injection hm with hm
      subst hm
      obtain ⟨es, clock, hbk, _⟩ := hm2
      rw [hk] at hbk
      injection hbk with hbk
      subst hbk
      exact hb trivial
theorem create_v {W w : World} {p : Nat} {t t' : TS} (h : TO W p t w) (s : ByteArray) (k : Int) (hs : s.size ≤ 140737488351232) {n e : Int} (h1 : crR t s.data.toList k = (n, e)) (h2 : crS t s.data.toList k = t') :
    Calls Try.prog 9 #[.pointer (some ⟨p, 0, none⟩), .string s, .int .i64 k] w (fun en w' => en = .returned (.tuple #[.int .i64 n, .int .i64 e]) ∧ TO W p t' w' ∧ KeepO badT w w') := by
  obtain ⟨m, a1, a2, a3⟩ := h.is
  have hc := tcreate_c p t s k w (fun i => i = p ∨ m = some i) ⟨m, a1, .inl rfl, fun i hi => .inr hi⟩ h.ok hs
  rw [h1, h2] at hc
  refine Calls.mono hc ?_
  rintro en w' ⟨rfl, hT, hO⟩
  have hs' := h.bel.size
  have hsub : ∀ i, (i = p ∨ m = some i) → W.heap.size ≤ i := fun i hi => by
    rcases hi with rfl | hi
    · exact a2
    · exact a3 i hi
  refine ⟨rfl, ⟨hT.mono fun i hi => ?_, h2 ▸ h.ok.create s.data.toList k, h.bel.trans (hO.below hs' hsub)⟩, ?_⟩
  · rcases hi with hi | hi
    · exact hsub i hi
    · omega
  · exact TI.keepO ⟨m, a1, a2, a3⟩ fun T hT => hO.mono fun i _ hi => by
      rcases hi with rfl | hi
      · exact hT.1
      · exact hT.2 m a1 i hi
theorem delete_v {W w : World} {p : Nat} {t t' : TS} (h : TO W p t w) (s : ByteArray) (hs : s.size ≤ 140737488351232) {n e : Int} (h1 : deR t s.data.toList = (n, e)) (h2 : deS t s.data.toList = t') :
    Calls Try.prog 11 #[.pointer (some ⟨p, 0, none⟩), .string s] w (fun en w' => en = .returned (.tuple #[.int .i64 n, .int .i64 e]) ∧ TO W p t' w' ∧ KeepO badT w w') := by
  obtain ⟨m, a1, a2, a3⟩ := h.is
  have hc := tdelete_c p t s w (fun i => i = p ∨ m = some i) ⟨m, a1, .inl rfl, fun i hi => .inr hi⟩ hs
  rw [h1, h2] at hc
  refine Calls.mono hc ?_
  rintro en w' ⟨rfl, hT, hO⟩
  have hs' := h.bel.size
  have hsub : ∀ i, (i = p ∨ m = some i) → W.heap.size ≤ i := fun i hi => by
    rcases hi with rfl | hi
    · exact a2
    · exact a3 i hi
  refine ⟨rfl, ⟨hT.mono fun i hi => ?_, h2 ▸ h.ok.delete s.data.toList, h.bel.trans (hO.below hs' hsub)⟩, ?_⟩
  · rcases hi with hi | hi
    · exact hsub i hi
    · omega
  · exact TI.keepO ⟨m, a1, a2, a3⟩ fun T hT => hO.mono fun i _ hi => by
      rcases hi with rfl | hi
      · exact hT.1
      · exact hT.2 m a1 i hi
theorem find_v {W w : World} {p : Nat} {t : TS} (h : TO W p t w) (s : ByteArray) (hs : s.size ≤ 140737488351232) {n k e : Int} (h1 : fiR t s.data.toList = (n, k, e)) :
    Calls Try.prog 13 #[.pointer (some ⟨p, 0, none⟩), .string s] w (fun en w' => en = .returned (.tuple #[.int .i64 n, .int .i64 k, .int .i64 e]) ∧ TO W p t w' ∧ Below w.heap.size w w') := by
  obtain ⟨m, a1, _, _⟩ := h.is
  have hc := tfind_c p m t s w a1 (by unfold maxLen; omega)
  rw [h1] at hc
  refine Calls.mono hc ?_
  rintro en w' ⟨rfl, hb⟩
  exact ⟨rfl, h.later hb, hb⟩
def sA : ByteArray := ⟨#[97]⟩
def lvA : TS := (1, [⟨[97], 0, 3⟩])
def lvB : TS := (1, [])
def lvC : TS := (2, [⟨[97], 1, 2⟩])
theorem lv_1 : crR (0, []) [97] 3 = (0, 0) := by decide
theorem lv_1s : crS (0, []) [97] 3 = lvA := rfl
theorem lv_2 : crR lvA [97] 3 = (0, 14) := by decide
theorem lv_2s : crS lvA [97] 3 = lvA := rfl
theorem lv_3 : deR lvA [97] = (0, 0) := rfl
theorem lv_3s : deS lvA [97] = lvB := rfl
theorem lv_4 : crR lvB [97] 2 = (1, 0) := by decide
theorem lv_4s : crS lvB [97] 2 = lvC := rfl
theorem lv_5 : fiR lvC [97] = (1, 2, 0) := rfl
theorem lv_6 : paT ⟨#[1]⟩ = 3 := by decide
set_option maxHeartbeats 16000000 in
set_option maxRecDepth 100000 in
theorem live_c (W : World) : Calls Try.prog 21 #[] W (Yes W) := by
  have cn := new_c W
  have hP := TO.new (W := W) (Below.refl _ W)
  have HP := Lib.hid hP
  have cp := fun w => tparse_c ⟨#[1]⟩ w (by decide)
  rw [lv_6] at cp
  unfold dp at cn
  clear hP
  go_enter Try.func21, Try.ntmps21
  go_wp2_with fail
  with_reducible refine cn.mono ?_
  rintro en w0 ⟨rfl, rfl⟩
  generalize (W.alloc (.cells #[.int .i64 0, .map none] 56)) = w0 at *
  clear cn
  generalize hp : W.heap.size = p at *
  have HQ := Lib.hid hp
  clear hp
  go_wp2_with fail
  with_reducible refine (create_v HP.out ⟨#[97]⟩ 3 (by decide) lv_1 lv_1s).mono ?_
  rintro en w1 ⟨rfl, h, _⟩
  have H1 := Lib.hid h
  clear h HP
  go_wp2_with fail
  with_reducible refine (create_v H1.out ⟨#[97]⟩ 3 (by decide) lv_2 lv_2s).mono ?_
  rintro en w2 ⟨rfl, h, _⟩
  have H2 := Lib.hid h
  clear h H1
  go_wp2_with fail
  with_reducible refine (delete_v H2.out ⟨#[97]⟩ (by decide) lv_3 lv_3s).mono ?_
  rintro en w3 ⟨rfl, h, _⟩
  have H3 := Lib.hid h
  clear h H2
  go_wp2_with fail
  with_reducible refine (create_v H3.out ⟨#[97]⟩ 2 (by decide) lv_4 lv_4s).mono ?_
  rintro en w4 ⟨rfl, h, _⟩
  have H4 := Lib.hid h
  clear h H3
  go_wp2_with fail
  with_reducible refine (find_v H4.out ⟨#[97]⟩ (by decide) lv_5).mono ?_
  rintro en w5 ⟨rfl, h, _⟩
  have H5 := Lib.hid h
  clear h H4
  go_wp2_with fail
  with_reducible refine (cp _).mono ?_
  rintro en w6 (⟨_, rfl, hb⟩ | ⟨h, _⟩)
  case inr => exact absurd h (by decide)
  have H6 := Lib.hid (H5.out.later hb)
  clear hb
  go_wp2_with fail
  go_ret
  exact ⟨rfl, H6.out.bel⟩
end Go.Proofs.Ytnpfakjgocnkbaa
