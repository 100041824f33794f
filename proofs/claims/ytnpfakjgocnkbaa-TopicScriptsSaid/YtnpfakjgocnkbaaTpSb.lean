/- topic: the program's table and the document's side by side. No condition. -/
import Derived.Test.YtnpfakjgocnkbaaTpRe
import Derived.Test.YtnpfakjgocnkbaaTpRp
import Derived.Test.YtnpfakjgocnkbaaTpIds
namespace Go.Proofs.Ytnpfakjgocnkbaa
open Go.RowKit
set_option linter.unusedVariables false
theorem RtIs.keepO {w w' : World} {base p c : Nat} {n : Int} {F : List TE} {A : Option Addr} (h : RtIs w base p n F A c) (hk : KeepO badT w w') : RtIs w' base p n F A c :=
  ⟨hk.box h.box (by decide), hk.row h.row (by decide)⟩
/-- The program's table at p has t, the document's at q has u. -/
structure Sc (W : World) (p q : Nat) (t u : TS) (w : World) : Prop where
  to : TO W p t w
  oku : TOk u
  doc : ∃ A c, RtIs w W.heap.size q u.1 u.2 A c
  hq : W.heap.size ≤ q
theorem Sc.later {W w w' : World} {p q : Nat} {t u : TS} (h : Sc W p q t u w) (hb : Below w.heap.size w w') : Sc W p q t u w' := by
  obtain ⟨A, c, hd⟩ := h.doc
  exact ⟨h.to.later hb, h.oku, ⟨A, c, hd.later hb⟩, h.hq⟩
theorem TO.offq {W w w' : World} {p q : Nat} {t : TS} {T : TypeId} {cs : Array Value} (h : TO W p t w) (hb : Box w q T cs) (hT : T ≠ 56) (ho : Off (fun k => k = q) w w') (hq : W.heap.size ≤ q) : TO W p t w' := by
  obtain ⟨m, a1, a2, a3⟩ := h.is
  have hbq := hb
  unfold Box at hbq
  have h1 : ∀ k, (k = p ∨ m = some k) → ¬ k = q := by
    rintro k (rfl | hm) rfl
    · have := a1.box
      unfold Box at this
      rw [hbq] at this
      injection this with this
      injection this with _ e _
      exact hT e
    · rcases a1.map with ⟨e, _⟩ | ⟨g, e, hm2⟩
      · rw [e] at hm; cases hm
      · rw [e] at hm
        injection hm with hm
        subst hm
        obtain ⟨es, clock, hbk, _⟩ := hm2
        rw [hbq] at hbk
        injection hbk with hbk
        cases hbk
  have h2 : TI p t w (fun k => k = p ∨ m = some k) := ⟨m, a1, .inl rfl, fun k hk => .inr hk⟩
  refine ⟨(h2.off ho h1).mono fun k hk => ?_, h.ok, h.bel.trans (ho.below h.bel.size fun k hk => by rw [hk]; exact hq)⟩
  rcases hk with rfl | hk
  · exact a2
  · exact a3 k hk
/-- With a call's own record of what is asked. -/
structure ScO (W : World) (p q : Nat) (t u : TS) (o : Nat) (x : OT) (w : World) : Prop where
  sc : Sc W p q t u w
  op : Box w o 30 #[.int .i64 x.do_, .string x.name, .int .i64 x.parts]
theorem ScO.later {W w w' : World} {p q o : Nat} {t u : TS} {x : OT} (h : ScO W p q t u o x w) (hb : Below w.heap.size w w') : ScO W p q t u o x w' := ⟨h.sc.later hb, h.op.later hb⟩
theorem ScO.cells {W w : World} {p q o : Nat} {t u : TS} {x : OT} (h : ScO W p q t u o x w) : w.cell? ⟨o, 0, none⟩ = some (.int .i64 x.do_) ∧ w.cell? ⟨o, 1, none⟩ = some (.string x.name) ∧ w.cell? ⟨o, 2, none⟩ = some (.int .i64 x.parts) ∧ o < w.heap.size :=
  ⟨(h.op.cell 0).trans rfl, (h.op.cell 1).trans rfl, (h.op.cell 2).trans rfl, h.op.lt⟩
theorem Sc.turn {W w w' : World} {p q o : Nat} {t t' u : TS} {x : OT} (h : ScO W p q t u o x w) (hT : TO W p t' w') (hk : KeepO badT w w') : ScO W p q t' u o x w' := by
  obtain ⟨A, c, hd⟩ := h.sc.doc
  exact ⟨⟨hT, h.sc.oku, ⟨A, c, hd.keepO hk⟩, h.sc.hq⟩, hk.box h.op (by decide)⟩
theorem Sc.rturn {W w w' : World} {p q o c : Nat} {t u u' : TS} {x : OT} {A : Option Addr} (h : ScO W p q t u o x w) (hd : RtIs w' W.heap.size q u'.1 u'.2 A c) (ho : Off (fun k => k = q) w w') (hok : TOk u') : ScO W p q t u' o x w' := by
  obtain ⟨A0, c0, hd0⟩ := h.sc.doc
  refine ⟨⟨h.sc.to.offq hd0.box (by decide) ho h.sc.hq, hok, ⟨A, c, hd⟩, h.sc.hq⟩, h.op.off ho ?_⟩
  rintro rfl
  have h1 := h.op
  have h2 := hd0.box
  unfold Box at h1 h2
  rw [h1] at h2
  injection h2 with h2
  injection h2 with _ e _
  exact absurd e (by decide)
theorem ScO.create {W w : World} {p q o : Nat} {t t' u : TS} {x : OT} (h : ScO W p q t u o x w) (hs : x.name.size ≤ 140737488351232) {n e : Int} (h1 : crR t x.name.data.toList x.parts = (n, e)) (h2 : crS t x.name.data.toList x.parts = t') :
    Calls Try.prog 9 #[.pointer (some ⟨p, 0, none⟩), .string x.name, .int .i64 x.parts] w (fun en w' => en = .returned (.tuple #[.int .i64 n, .int .i64 e]) ∧ ScO W p q t' u o x w') := by
  refine Calls.mono (create_v h.sc.to x.name x.parts hs h1 h2) ?_
  rintro en w' ⟨rfl, hT, hk⟩
  exact ⟨rfl, Sc.turn h hT hk⟩
theorem ScO.delete {W w : World} {p q o : Nat} {t t' u : TS} {x : OT} (h : ScO W p q t u o x w) (hs : x.name.size ≤ 140737488351232) {n e : Int} (h1 : deR t x.name.data.toList = (n, e)) (h2 : deS t x.name.data.toList = t') :
    Calls Try.prog 11 #[.pointer (some ⟨p, 0, none⟩), .string x.name] w (fun en w' => en = .returned (.tuple #[.int .i64 n, .int .i64 e]) ∧ ScO W p q t' u o x w') := by
  refine Calls.mono (delete_v h.sc.to x.name hs h1 h2) ?_
  rintro en w' ⟨rfl, hT, hk⟩
  exact ⟨rfl, Sc.turn h hT hk⟩
theorem ScO.rcreate {W w : World} {p q o : Nat} {t u u' : TS} {x : OT} (h : ScO W p q t u o x w) (hs : x.name.size ≤ 140737488351232) {n e : Int} (h1 : crR u x.name.data.toList x.parts = (n, e)) (h2 : crS u x.name.data.toList x.parts = u') :
    Calls Try.prog 10 #[.pointer (some ⟨q, 0, none⟩), .string x.name, .int .i64 x.parts] w (fun en w' => en = .returned (.tuple #[.int .i64 n, .int .i64 e]) ∧ ScO W p q t u' o x w') := by
  obtain ⟨A, c, hd⟩ := h.sc.doc
  have := rcreate_c q W.heap.size u A c x.name x.parts w hd h.sc.oku hs h.sc.to.bel.size
  rw [h1, h2] at this
  refine Calls.mono this ?_
  rintro en w' ⟨rfl, A', c', hd', ho⟩
  exact ⟨rfl, Sc.rturn h hd' ho (h2 ▸ h.sc.oku.create _ _)⟩
theorem ScO.rdelete {W w : World} {p q o : Nat} {t u u' : TS} {x : OT} (h : ScO W p q t u o x w) {n e : Int} (h1 : deR u x.name.data.toList = (n, e)) (h2 : deS u x.name.data.toList = u') :
    Calls Try.prog 12 #[.pointer (some ⟨q, 0, none⟩), .string x.name] w (fun en w' => en = .returned (.tuple #[.int .i64 n, .int .i64 e]) ∧ ScO W p q t u' o x w') := by
  obtain ⟨A, c, hd⟩ := h.sc.doc
  have := rdelete_c q W.heap.size u A c x.name w hd h.sc.oku h.sc.to.bel.size
  rw [h1, h2] at this
  refine Calls.mono this ?_
  rintro en w' ⟨rfl, A', c', hd', ho⟩
  exact ⟨rfl, Sc.rturn h hd' ho (h2 ▸ h.sc.oku.delete _)⟩
theorem ScO.find {W w : World} {p q o : Nat} {t u : TS} {x : OT} (h : ScO W p q t u o x w) (hs : x.name.size ≤ 140737488351232) {n k e : Int} (h1 : fiR t x.name.data.toList = (n, k, e)) :
    Calls Try.prog 13 #[.pointer (some ⟨p, 0, none⟩), .string x.name] w (fun en w' => en = .returned (.tuple #[.int .i64 n, .int .i64 k, .int .i64 e]) ∧ ScO W p q t u o x w') := by
  refine Calls.mono (find_v h.sc.to x.name hs h1) ?_
  rintro en w' ⟨rfl, hT, hb⟩
  exact ⟨rfl, h.later hb⟩
theorem Sc.rfind {W w : World} {p q : Nat} {t u : TS} (h : Sc W p q t u w) (s : ByteArray) {i : Int} (hi : findI u.2 s.data.toList = i) :
    Calls Try.prog 14 #[.pointer (some ⟨q, 0, none⟩), .string s] w (fun en w' => en = .returned (.int .i64 i) ∧ w = w') := by
  obtain ⟨A, c, hd⟩ := h.doc
  have := rfind_c u.1 u.2 A c W.heap.size q s w hd (by have := h.oku.many; omega)
  rw [hi] at this
  exact this
theorem Sc.list {W w : World} {p q : Nat} {t u : TS} (h : Sc W p q t u w) : Calls Try.prog 18 #[.pointer (some ⟨p, 0, none⟩)] w (ListIs w t.2) := by
  obtain ⟨m, h1, _⟩ := h.to.is
  exact list_c p m t.1 t.2 w h1 (by have := h.to.ok.many; omega) (fun e he => by have := (h.to.ok.names e he).2; omega)
theorem Sc.rlist {W w : World} {p q : Nat} {t u : TS} (h : Sc W p q t u w) : Calls Try.prog 19 #[.pointer (some ⟨q, 0, none⟩)] w (ListIs w u.2) := by
  obtain ⟨A, c, hd⟩ := h.doc
  exact rlist_c q W.heap.size u.1 u.2 A c w hd (by have := h.oku.many; omega)
theorem Sc.print {W w : World} {p q : Nat} {t u : TS} (h : Sc W p q t u w) {s : ByteArray} (hs : (⟨(printT t).toArray⟩ : ByteArray) = s) : Calls Try.prog 16 #[.pointer (some ⟨p, 0, none⟩)] w (Good w (.string s)) := by
  obtain ⟨m, h1, _⟩ := h.to.is
  rw [← hs]
  exact tprint_c p m t w h1 h.to.ok
theorem Sc.rprint {W w : World} {p q : Nat} {t u : TS} (h : Sc W p q t u w) {s : ByteArray} (hs : (⟨(printT u).toArray⟩ : ByteArray) = s) : Calls Try.prog 20 #[.pointer (some ⟨q, 0, none⟩)] w (Good w (.string s)) := by
  obtain ⟨A, c, hd⟩ := h.doc
  rw [← hs]
  exact rprint_c q W.heap.size u A c w hd h.oku
/-- Printed and parsed, it is a table that has the same. -/
theorem Sc.parse {W w : World} {p q : Nat} {t u : TS} (h : Sc W p q t u w) {s : ByteArray} (hs : (⟨(printT t).toArray⟩ : ByteArray) = s) :
    Calls Try.prog 15 #[.string s] w (fun en w' => ∃ p', en = .returned (.tuple #[.pointer (some ⟨p', 0, none⟩), .int .i64 0]) ∧ Sc W p' q t u w' ∧ Below w.heap.size w w') := by
  obtain ⟨e1, e2, e3⟩ := parse_print h.to.ok
  have hl := prK_len h.to.ok t.2.length
  rw [prK_end t (Nat.le_refl _)] at hl
  have hz : s.size ≤ 1152921504606846976 := by
    rw [← hs, bytes_size]
    omega
  have hc := tparse_c s w hz
  rw [← hs, e1, e2, e3, hs] at hc
  refine Calls.mono hc ?_
  rintro en w' (⟨h0, _⟩ | ⟨_, p', rfl, hT, hok, hb⟩)
  · exact absurd rfl h0
  · have hl := h.later hb
    have hz := h.to.bel.size
    exact ⟨p', rfl, ⟨⟨hT.mono fun k hk => by omega, hok, hl.to.bel⟩, hl.oku, hl.doc, hl.hq⟩, hb⟩
theorem Sc.new {W : World} : Sc W W.heap.size (W.heap.size + 1) (0, []) (0, []) ((W.alloc (.cells #[.int .i64 0, .map none] 56)).alloc (.cells #[.int .i64 0, .slice none 0 0] 28)) := by
  have h1 := TO.new (Below.refl W.heap.size W)
  have h2 := Box.new (W.alloc (.cells #[.int .i64 0, .map none] 56)) 28 #[.int .i64 0, .slice none 0 0]
  rw [World.size_alloc] at h2
  have hb := (Below.refl (W.alloc (.cells #[.int .i64 0, .map none] 56)).heap.size (W.alloc (.cells #[.int .i64 0, .map none] 56))).alloc (Nat.le_refl _) (.cells #[.int .i64 0, .slice none 0 0] 28)
  exact ⟨h1.later hb, TOk.new, ⟨none, 0, ⟨h2, World.ownsRow_nil _ _ _ _⟩⟩, by omega⟩
theorem fi_find {F : TS} (hok : TOk F) (s : List UInt8) : (fiR F s = (0, 0, 6) ∧ findI F.2 s = -1) ∨ ∃ (i : Nat) (e : TE), fiR F s = (e.id, e.parts, 0) ∧ findI F.2 s = (i : Int) ∧ F.2[i]? = some e := by
  unfold fiR
  cases hf : ofN F.2 s with
  | none => exact .inl ⟨rfl, findI_none hf⟩
  | some e =>
    obtain ⟨i, hi, hie, _⟩ := findI_some hok.rise hf
    exact .inr ⟨i, e, rfl, hi, hie⟩
end Go.Proofs.Ytnpfakjgocnkbaa
