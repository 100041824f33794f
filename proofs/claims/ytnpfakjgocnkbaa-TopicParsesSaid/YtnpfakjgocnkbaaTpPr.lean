/- topic: Print, by a contract. No condition but that they are not too many. -/
import Derived.Test.YtnpfakjgocnkbaaTpLs
import Derived.Test.YtnpfakjgocnkbaaBld
namespace Go.Proofs.Ytnpfakjgocnkbaa
open Go.RowKit Go.Maps Go.ChangeMaps Go.WideMaps
set_option linter.unusedVariables false
theorem BuilderAt.later {T e : TypeId} {B b : Nat} {p : Value} {bs : List Value} {w w' : World} (h : Lib.BuilderAt T e B b p bs w) (hb : Below w.heap.size w w') : Lib.BuilderAt T e B b p bs w' := by
  have hlt := h.lt
  obtain ⟨hB, v, hbk, hown, hne⟩ := h
  refine ⟨hB, v, (hb.block b hlt).trans hbk, ?_, hne⟩
  refine hown.kept (row := none) ⟨hb.os, hb.tape, hb.output, hb.size, fun k hk _ => hb.block k hk⟩ ?_
  cases v.ownBlock with
  | none => exact .inl rfl
  | some g => exact .inr (by simp)
theorem Bld.later {w w' : World} {B b : Nat} {l : List UInt8} (h : Bld w B b l) (hb : Below w.heap.size w w') : Bld w' B b l := by
  rcases h with h | h
  · exact .inl (BuilderAt.later h hb)
  · exact .inr (BuilderAt.later h hb)
theorem Bld.box {w : World} {B b : Nat} {l : List UInt8} (h : Bld w B b l) {g : Nat} {t : TypeId} {cs : Array Value} (hb : Box w g t cs) (ht : t ≠ 68) : g ≠ b := by
  intro e
  subst e
  unfold Box at hb
  rcases h with ⟨_, v, h, _⟩ | ⟨_, v, h, _⟩ <;> (rw [hb] at h; injection h with h; injection h with _ h _; exact ht h)
theorem own_keep {w w' : World} {B B' b n : Nat} {v : Value} {xs : List Value} {l : List UInt8} (h : w.ownsRow B' 9 1 v n xs) (hb : Bld w B b l) (hk : Keeps b w w') : w'.ownsRow B' 9 1 v n xs := by
  refine ⟨h.1, ?_⟩
  rcases h.2 with h0 | ⟨g, cap, cur, rfl, hB, hg, hr⟩
  · exact .inl h0
  · refine .inr ⟨g, cap, cur, rfl, hB, ?_, hr⟩
    have hne : g ≠ b := hb.box (t := 9) (cs := cur) hg (by decide)
    exact (hk g (lt_of_there hg) hne (fun c f e => by rw [hg] at e; injection e with e; injection e with _ e _; exact absurd e (by decide))).trans hg
/-- Between two rounds: the builder, the names in their order, all else as it was. -/
structure PrI (W : World) (q : Nat) (v : Value) (F : List TE) (l : List UInt8) (w : World) : Prop where
  bld : Bld w W.heap.size q l
  row : w.ownsRow W.heap.size 9 1 v F.length (nmsV F)
  bel : Below W.heap.size W w
theorem PrI.step {W w w' : World} {q : Nat} {v : Value} {F : List TE} {l l' : List UInt8} (h : PrI W q v F l w) (hl : Bld w' W.heap.size q l') (hb : Below W.heap.size w w') (hk : Keeps q w w') : PrI W q v F l' w' :=
  ⟨hl, own_keep h.row h.bld hk, h.bel.trans hb⟩
theorem PrI.later {W w w' : World} {q : Nat} {v : Value} {F : List TE} {l : List UInt8} (h : PrI W q v F l w) (hb : Below w.heap.size w w') : PrI W q v F l w' :=
  ⟨h.bld.later hb, own_below h.row hb, h.bel.trans (hb.mono h.bel.size)⟩
/-- A text more. -/
theorem PrI.write {W w : World} {q : Nat} {v : Value} {F : List TE} {l : List UInt8} (h : PrI W q v F l w) (s : ByteArray) (hlen : l.length + s.size ≤ 140737488355328) :
    Calls Try.prog 27 #[.pointer (some ⟨q, 0, none⟩), .string s] w (fun en w' => en = .returned (.tuple #[.int .i64 s.size, .nilIface]) ∧ PrI W q v F (l ++ s.data.toList) w') := by
  refine (bwrite_c W.heap.size q l s w h.bld hlen h.bel.size).mono ?_
  rintro en w' ⟨rfl, h1, h2, h3⟩
  exact ⟨rfl, h.step h1 h2 h3⟩
def prK (t : TS) (k : Nat) : List UInt8 := putL t.1 ++ (putL (t.2.length : Int) ++ (t.2.take k).flatMap oneT)
theorem prK_end (t : TS) {k : Nat} (h : t.2.length ≤ k) : prK t k = printT t := by unfold prK printT; rw [List.take_of_length_le h]
theorem prK_snoc {t : TS} {k : Nat} {x : TE} (h : t.2[k]? = some x) : ((prK t k ++ txt (nmA x)) ++ putL x.id) ++ putL x.parts = prK t (k + 1) := by
  unfold prK
  rw [take_snoc' h, List.flatMap_append]
  simp [oneT]
theorem oneT_len (e : TE) : (oneT e).length ≤ e.name.length + 30 := by
  unfold oneT
  rw [List.length_append, List.length_append, txt_len, nmA_size]
  have h1 := putL_len (e.name.length : Int)
  have h2 := putL_len e.id
  have h3 := putL_len e.parts
  omega
theorem flat_le {α : Type} (f : α → List UInt8) (b : Nat) : ∀ L : List α, (∀ x ∈ L, (f x).length ≤ b) → (L.flatMap f).length ≤ b * L.length
  | [], _ => by simp
  | x :: l, h => by
    rw [List.flatMap_cons, List.length_append, List.length_cons, Nat.mul_add]
    have h1 := h x (by simp)
    have h2 := flat_le f b l (fun y hy => h y (by simp [hy]))
    omega
theorem prK_len {t : TS} (h : TOk t) (k : Nat) : (prK t k).length ≤ 2620 := by
  unfold prK
  rw [List.length_append, List.length_append]
  have h1 := putL_len t.1
  have h2 := putL_len (t.2.length : Int)
  have h3 := flat_le oneT 130 (t.2.take k) (fun e he => by
    have := oneT_len e
    have := (h.names e (List.mem_of_mem_take he)).2
    omega)
  have h4 : (t.2.take k).length ≤ t.2.length := by rw [List.length_take]; omega
  have h5 := h.many
  omega
theorem field_0 (a b : Int) (w : World) : (Instr.field 59 (.agg #[.int .i64 a, .int .i64 b]) 0).run Try.prog w = .ok (.int .i64 a) w := by kernel_rfl
theorem toText (s : ByteArray) : (textG s).data.toList = txt s := by rw [← txt_textG]
set_option maxHeartbeats 16000000 in
set_option maxRecDepth 100000 in
theorem tprint_c (p : Nat) (m : Option Nat) (t : TS) (W : World) (h : TbIs W p m t.1 t.2) (hok : TOk t) : Calls Try.prog 16 #[dp p] W (Good W (.string ⟨(printT t).toArray⟩)) := by
  have hbel := Below.refl W.heap.size W
  unfold dp
  have cput1 := fun w => put_c t.1 w (by have := hok.next; omega) (by have := hok.next; omega)
  have cput2 := fun w => put_c (t.2.length : Int) w (by omega) (by have := hok.many; omega)
  have cnm := fun w hb => names_c p m t.1 t.2 w (TbIs.later (w := W) h hb) (by have := hok.many; omega)
  have hB0 : Below W.heap.size W (W.alloc (.cells #[.pointer none, .slice none 0 0] 68)) := (Below.refl _ _).alloc (Nat.le_refl _) _
  have H0 : Hid (Bld (W.alloc (.cells #[.pointer none, .slice none 0 0] 68)) W.heap.size W.heap.size []) := Lib.hid (Bld.fresh W)
  have HB0 := Lib.hid hB0
  have hT0 := h.later hB0
  obtain ⟨y0, y1, hpl⟩ := hT0.cells
  have HOK := Lib.hid hok
  have HT := Lib.hid h
  have HBEL := Lib.hid hbel
  have e1 : Hid (putL t.1 ++ putL (t.2.length : Int) = prK t 0) := Lib.hid (by unfold prK; simp)
  have hmany : t.2.length ≤ 20 := HOK.out.many
  have l1 := putL_len t.1
  have l2 := putL_len (t.2.length : Int)
  unfold dp at cnm
  clear hB0 hT0 h hok hbel
  go_enter Try.func16, Try.ntmps16
  go_wp2_with fail
  with_reducible refine (cput1 _).mono ?_
  rintro en w1 ⟨rfl, hb1⟩
  have H1 := Lib.hid (H0.out.later hb1)
  have HB1 := Lib.hid (HB0.out.trans (hb1.mono HB0.out.size))
  have cw := bwrite_c W.heap.size W.heap.size [] ⟨(putL t.1).toArray⟩ w1 H1.out (by simp; show (putL t.1).toArray.size ≤ _; rw [List.size_toArray]; omega) HB1.out.size
  clear hb1 H0 HB0 y0 y1
  go_wp2_with fail
  with_reducible refine cw.mono ?_
  rintro en w2 ⟨rfl, h2, hb2, _⟩
  have H2 := Lib.hid h2
  have HB2 := Lib.hid (HB1.out.trans hb2)
  have hT2 := HT.out.later HB2.out
  have hlr := len_run hT2
  obtain ⟨y0, y1, hpl2⟩ := hT2.cells
  clear h2 hb2 H1 HB1 cw hT2
  go_wp2_with fail
  with_reducible refine (cput2 _).mono ?_
  rintro en w3 ⟨rfl, hb3⟩
  have H3 := Lib.hid (H2.out.later hb3)
  have HB3 := Lib.hid (HB2.out.trans (hb3.mono HB2.out.size))
  have cw := bwrite_c W.heap.size W.heap.size _ ⟨(putL (t.2.length : Int)).toArray⟩ w3 H3.out (by simp only [List.nil_append]; show (putL t.1).length + (putL (t.2.length : Int)).toArray.size ≤ _; rw [List.size_toArray]; omega) HB3.out.size
  clear hb3 H2 HB2 y0 y1 hlr
  go_wp2_with fail
  with_reducible refine cw.mono ?_
  rintro en w4 ⟨rfl, h4, hb4, _⟩
  have H4 : Hid (Bld w4 W.heap.size W.heap.size (prK t 0)) := Lib.hid (by
    rw [← e1.out]
    exact h4)
  have HB4 := Lib.hid (HB3.out.trans hb4)
  clear h4 hb4 H3 HB3 cw
  go_wp2_with fail
  with_reducible refine (cnm _ HB4.out).mono ?_
  rintro en w5 ⟨v, rfl, hrow, hb5⟩
  have H5 : Hid (PrI W W.heap.size v t.2 (prK t 0) w5) := Lib.hid ⟨H4.out.later hb5, own_base' hrow HB4.out.size, HB4.out.trans (hb5.mono HB4.out.size)⟩
  obtain ⟨A, c, rfl⟩ := own_slc hrow
  clear hrow hb5 H4 HB4 cnm
  go_wp2_with fail
  go_loopw [5, 25] (fun _ i wr => ∃ k : Nat, i = .int .i64 k ∧ k ≤ t.2.length ∧ PrI W W.heap.size (.slice A t.2.length c) t.2 (prK t k) wr) (fun _ i _ => t.2.length - (intOf i).toNat)
  case atStart => exact ⟨0, rfl, Nat.zero_le _, H5.out⟩
  case round =>
    obtain ⟨k, rfl, hk, hI⟩ := hrel
    have HI := Lib.hid hI
    clear H5 hI
    by_cases hkl : k < t.2.length
    · obtain ⟨x, hx0⟩ : ∃ x, t.2[k]? = some x := ⟨_, List.getElem?_eq_getElem hkl⟩
      obtain ⟨g, cap, hv, hcell⟩ := nms_cell HI.out.row hx0
      injection hv with hA _ hc
      subst hA hc
      have hmem := List.mem_of_getElem? hx0
      have hxn := HOK.out.names x hmem
      have hxi := HOK.out.ids x hmem
      have hxp := HOK.out.parts x hmem
      have hxx := HOK.out.next
      have hpk := prK_len HOK.out k
      have hon := oneT_len x
      have ct := fun w => text_c (nmA x) w (by rw [nmA_size]; omega)
      have ci := fun w => put_c x.id w (by omega) (by omega)
      have cq := fun w => put_c x.parts w (by omega) (by omega)
      have hlk := Lib.hid (fun w (hb : Below W.heap.size W w) => look_at (HT.out.later hb) hx0 (by unfold maxLen; omega))
      have hcl := Lib.hid (fun w (hb : Below W.heap.size W w) => (HT.out.later hb).cells.2.1)
      have hlt := Lib.hid (fun w (hb : Below W.heap.size W w) => (HT.out.later hb).cells.2.2)
      have hfa := field_0 x.id x.parts
      have hfb := field_1 x.id x.parts
      have HSN := Lib.hid (prK_snoc hx0)
      have htl : (txt (nmA x)).length ≤ 110 := by rw [txt_len, nmA_size]; have := putL_len (x.name.length : Int); omega
      have hil := putL_len x.id
      have hql := putL_len x.parts
      have hts : (textG (nmA x)).size = (txt (nmA x)).length := by rw [← toText]; rfl
      have HTS := Lib.hid hts
      have hK0 : (0 : Int) ≤ (k : Int) := by omega
      have hK1 : (k : Int) < (t.2.length : Int) := by omega
      clear hx0 hxn hxi hxp hxx hmem hts
      go_wp2_with fail
      with_reducible refine (ct _).mono ?_
      rintro en w6 ⟨rfl, hb6⟩
      have cw := (HI.out.later hb6).write (textG (nmA x)) (by have := HTS.out; omega)
      rw [toText] at cw
      clear hb6 hcell
      go_wp2_with fail
      with_reducible refine cw.mono ?_
      rintro en w7 ⟨rfl, h7⟩
      have H7 := Lib.hid h7
      have z1 := hcl.out _ H7.out.bel
      have z2 := hlk.out _ H7.out.bel
      have z3 := hlt.out _ H7.out.bel
      clear h7 cw
      go_wp2_with fail
      with_reducible refine (ci _).mono ?_
      rintro en w8 ⟨rfl, hb8⟩
      have cw := (H7.out.later hb8).write ⟨(putL x.id).toArray⟩ (by rw [List.length_append]; show _ + (putL x.id).toArray.size ≤ _; rw [List.size_toArray]; omega)
      clear hb8 z1 z2 z3
      go_wp2_with fail
      with_reducible refine cw.mono ?_
      rintro en w9 ⟨rfl, h9⟩
      have H9 := Lib.hid h9
      have z1 := hcl.out _ H9.out.bel
      have z2 := hlk.out _ H9.out.bel
      have z3 := hlt.out _ H9.out.bel
      clear h9 cw H7
      go_wp2_with fail
      with_reducible refine (cq _).mono ?_
      rintro en w10 ⟨rfl, hb10⟩
      have cw := (H9.out.later hb10).write ⟨(putL x.parts).toArray⟩ (by simp only [List.length_append]; show _ + (putL x.id).length + (putL x.parts).toArray.size ≤ _; rw [List.size_toArray]; omega)
      clear hb10 z1 z2 z3
      go_wp2_with fail
      with_reducible refine cw.mono ?_
      rintro en w11 ⟨rfl, h11⟩
      have H11 : Hid (PrI W W.heap.size (.slice (some ⟨g, 0, none⟩) t.2.length c) t.2 (prK t (k + 1)) w11) := Lib.hid (by
        rw [← HSN.out]
        exact h11)
      clear h11 cw H9
      go_wp2_with fail
      go_roundw
      case rel => exact ⟨k + 1, by go_num, hkl, H11.out⟩
      case measure => simp [intOf]; omega
    · have hs := Try.Builder_String_any W.heap.size W.heap.size (prK t k) wr HI.out.bld HI.out.bel.size
      rw [prK_end t (by omega)] at hs
      have hki : ¬ (k : Int) < (t.2.length : Int) := by omega
      clear hkl
      go_wp2_with fail
      with_reducible refine hs.mono ?_
      rintro en w4 ⟨rfl, hb4⟩
      have H4 := Lib.hid (HBEL.out.trans ((HI.out.bel.trans hb4).mono HBEL.out.size))
      clear hb4
      go_wp2_with fail
      go_ret
      exact ⟨rfl, H4.out⟩
set_option maxHeartbeats 16000000 in
set_option maxRecDepth 100000 in
theorem tprint_nil (W : World) : Calls Try.prog 16 #[.pointer none] W (Good W (.string ⟨(printT (0, [])).toArray⟩)) := by
  obtain ⟨t, ht⟩ : ∃ t : TS, t = (0, []) := ⟨_, rfl⟩
  have cn := new_c W
  have hok : TOk t := ht ▸ TOk.new
  have hbel : Below W.heap.size W (W.alloc (.cells #[.int .i64 0, .map none] 56)) := (Below.refl _ _).alloc (Nat.le_refl _) _
  have h : TbIs (W.alloc (.cells #[.int .i64 0, .map none] 56)) W.heap.size none t.1 t.2 := ht ▸ new_is W
  rw [← ht]
  clear ht
  unfold dp at cn
  generalize W.alloc (.cells #[.int .i64 0, .map none] 56) = WB at *
  have cput1 := fun w => put_c t.1 w (by have := hok.next; omega) (by have := hok.next; omega)
  have cput2 := fun w => put_c (t.2.length : Int) w (by omega) (by have := hok.many; omega)
  have cnm := fun w hb => names_c W.heap.size none t.1 t.2 w (TbIs.later (w := WB) h hb) (by have := hok.many; omega)
  have hB0 : Below WB.heap.size WB (WB.alloc (.cells #[.pointer none, .slice none 0 0] 68)) := (Below.refl _ _).alloc (Nat.le_refl _) _
  have H0 : Hid (Bld (WB.alloc (.cells #[.pointer none, .slice none 0 0] 68)) WB.heap.size WB.heap.size []) := Lib.hid (Bld.fresh WB)
  have HB0 := Lib.hid hB0
  have hT0 := h.later hB0
  obtain ⟨y0, y1, hpl⟩ := hT0.cells
  have HOK := Lib.hid hok
  have HT := Lib.hid h
  have HBEL := Lib.hid hbel
  have e1 : Hid (putL t.1 ++ putL (t.2.length : Int) = prK t 0) := Lib.hid (by unfold prK; simp)
  have hmany : t.2.length ≤ 20 := HOK.out.many
  have l1 := putL_len t.1
  have l2 := putL_len (t.2.length : Int)
  unfold dp at cnm
  clear hB0 hT0 h hok hbel
  go_enter Try.func16, Try.ntmps16
  go_wp2_with fail
  with_reducible refine cn.mono ?_
  rintro en wx ⟨rfl, hwx⟩
  have hwx' := hwx.symm
  subst hwx'
  clear hwx
  go_wp2_with fail
  with_reducible refine (cput1 _).mono ?_
  rintro en w1 ⟨rfl, hb1⟩
  have H1 := Lib.hid (H0.out.later hb1)
  have HB1 := Lib.hid (HB0.out.trans (hb1.mono HB0.out.size))
  have cw := bwrite_c WB.heap.size WB.heap.size [] ⟨(putL t.1).toArray⟩ w1 H1.out (by simp; show (putL t.1).toArray.size ≤ _; rw [List.size_toArray]; omega) HB1.out.size
  clear hb1 H0 HB0 y0 y1
  go_wp2_with fail
  with_reducible refine cw.mono ?_
  rintro en w2 ⟨rfl, h2, hb2, _⟩
  have H2 := Lib.hid h2
  have HB2 := Lib.hid (HB1.out.trans hb2)
  have hT2 := HT.out.later HB2.out
  have hlr := len_run hT2
  obtain ⟨y0, y1, hpl2⟩ := hT2.cells
  clear h2 hb2 H1 HB1 cw hT2
  go_wp2_with fail
  with_reducible refine (cput2 _).mono ?_
  rintro en w3 ⟨rfl, hb3⟩
  have H3 := Lib.hid (H2.out.later hb3)
  have HB3 := Lib.hid (HB2.out.trans (hb3.mono HB2.out.size))
  have cw := bwrite_c WB.heap.size WB.heap.size _ ⟨(putL (t.2.length : Int)).toArray⟩ w3 H3.out (by simp only [List.nil_append]; show (putL t.1).length + (putL (t.2.length : Int)).toArray.size ≤ _; rw [List.size_toArray]; omega) HB3.out.size
  clear hb3 H2 HB2 y0 y1 hlr
  go_wp2_with fail
  with_reducible refine cw.mono ?_
  rintro en w4 ⟨rfl, h4, hb4, _⟩
  have H4 : Hid (Bld w4 WB.heap.size WB.heap.size (prK t 0)) := Lib.hid (by
    rw [← e1.out]
    exact h4)
  have HB4 := Lib.hid (HB3.out.trans hb4)
  clear h4 hb4 H3 HB3 cw
  go_wp2_with fail
  with_reducible refine (cnm _ HB4.out).mono ?_
  rintro en w5 ⟨v, rfl, hrow, hb5⟩
  have H5 : Hid (PrI WB WB.heap.size v t.2 (prK t 0) w5) := Lib.hid ⟨H4.out.later hb5, own_base' hrow HB4.out.size, HB4.out.trans (hb5.mono HB4.out.size)⟩
  obtain ⟨A, c, rfl⟩ := own_slc hrow
  clear hrow hb5 H4 HB4 cnm
  go_wp2_with fail
  go_loopw [5, 25] (fun _ i wr => ∃ k : Nat, i = .int .i64 k ∧ k ≤ t.2.length ∧ PrI WB WB.heap.size (.slice A t.2.length c) t.2 (prK t k) wr) (fun _ i _ => t.2.length - (intOf i).toNat)
  case atStart => exact ⟨0, rfl, Nat.zero_le _, H5.out⟩
  case round =>
    obtain ⟨k, rfl, hk, hI⟩ := hrel
    have HI := Lib.hid hI
    clear H5 hI
    by_cases hkl : k < t.2.length
    · obtain ⟨x, hx0⟩ : ∃ x, t.2[k]? = some x := ⟨_, List.getElem?_eq_getElem hkl⟩
      obtain ⟨g, cap, hv, hcell⟩ := nms_cell HI.out.row hx0
      injection hv with hA _ hc
      subst hA hc
      have hmem := List.mem_of_getElem? hx0
      have hxn := HOK.out.names x hmem
      have hxi := HOK.out.ids x hmem
      have hxp := HOK.out.parts x hmem
      have hxx := HOK.out.next
      have hpk := prK_len HOK.out k
      have hon := oneT_len x
      have ct := fun w => text_c (nmA x) w (by rw [nmA_size]; omega)
      have ci := fun w => put_c x.id w (by omega) (by omega)
      have cq := fun w => put_c x.parts w (by omega) (by omega)
      have hlk := Lib.hid (fun w (hb : Below WB.heap.size WB w) => look_at (HT.out.later hb) hx0 (by unfold maxLen; omega))
      have hcl := Lib.hid (fun w (hb : Below WB.heap.size WB w) => (HT.out.later hb).cells.2.1)
      have hlt := Lib.hid (fun w (hb : Below WB.heap.size WB w) => (HT.out.later hb).cells.2.2)
      have hfa := field_0 x.id x.parts
      have hfb := field_1 x.id x.parts
      have HSN := Lib.hid (prK_snoc hx0)
      have htl : (txt (nmA x)).length ≤ 110 := by rw [txt_len, nmA_size]; have := putL_len (x.name.length : Int); omega
      have hil := putL_len x.id
      have hql := putL_len x.parts
      have hts : (textG (nmA x)).size = (txt (nmA x)).length := by rw [← toText]; rfl
      have HTS := Lib.hid hts
      have hK0 : (0 : Int) ≤ (k : Int) := by omega
      have hK1 : (k : Int) < (t.2.length : Int) := by omega
      clear hx0 hxn hxi hxp hxx hmem hts
      go_wp2_with fail
      with_reducible refine (ct _).mono ?_
      rintro en w6 ⟨rfl, hb6⟩
      have cw := (HI.out.later hb6).write (textG (nmA x)) (by have := HTS.out; omega)
      rw [toText] at cw
      clear hb6 hcell
      go_wp2_with fail
      with_reducible refine cw.mono ?_
      rintro en w7 ⟨rfl, h7⟩
      have H7 := Lib.hid h7
      have z1 := hcl.out _ H7.out.bel
      have z2 := hlk.out _ H7.out.bel
      have z3 := hlt.out _ H7.out.bel
      clear h7 cw
      go_wp2_with fail
      with_reducible refine (ci _).mono ?_
      rintro en w8 ⟨rfl, hb8⟩
      have cw := (H7.out.later hb8).write ⟨(putL x.id).toArray⟩ (by rw [List.length_append]; show _ + (putL x.id).toArray.size ≤ _; rw [List.size_toArray]; omega)
      clear hb8 z1 z2 z3
      go_wp2_with fail
      with_reducible refine cw.mono ?_
      rintro en w9 ⟨rfl, h9⟩
      have H9 := Lib.hid h9
      have z1 := hcl.out _ H9.out.bel
      have z2 := hlk.out _ H9.out.bel
      have z3 := hlt.out _ H9.out.bel
      clear h9 cw H7
      go_wp2_with fail
      with_reducible refine (cq _).mono ?_
      rintro en w10 ⟨rfl, hb10⟩
      have cw := (H9.out.later hb10).write ⟨(putL x.parts).toArray⟩ (by simp only [List.length_append]; show _ + (putL x.id).length + (putL x.parts).toArray.size ≤ _; rw [List.size_toArray]; omega)
      clear hb10 z1 z2 z3
      go_wp2_with fail
      with_reducible refine cw.mono ?_
      rintro en w11 ⟨rfl, h11⟩
      have H11 : Hid (PrI WB WB.heap.size (.slice (some ⟨g, 0, none⟩) t.2.length c) t.2 (prK t (k + 1)) w11) := Lib.hid (by
        rw [← HSN.out]
        exact h11)
      clear h11 cw H9
      go_wp2_with fail
      go_roundw
      case rel => exact ⟨k + 1, by go_num, hkl, H11.out⟩
      case measure => simp [intOf]; omega
    · have hs := Try.Builder_String_any WB.heap.size WB.heap.size (prK t k) wr HI.out.bld HI.out.bel.size
      rw [prK_end t (by omega)] at hs
      have hki : ¬ (k : Int) < (t.2.length : Int) := by omega
      clear hkl
      go_wp2_with fail
      with_reducible refine hs.mono ?_
      rintro en w4 ⟨rfl, hb4⟩
      have H4 := Lib.hid (HBEL.out.trans ((HI.out.bel.trans hb4).mono HBEL.out.size))
      clear hb4
      go_wp2_with fail
      go_ret
      exact ⟨rfl, H4.out⟩
end Go.Proofs.Ytnpfakjgocnkbaa
