/- topic: the document's reader: within; what is there while it reads. No condition but the text's length. -/
import Derived.Test.YtnpfakjgocnkbaaTpRt
import Derived.Test.YtnpfakjgocnkbaaTpDr
import Derived.Test.YtnpfakjgocnkbaaRRd
import Derived.BigQuiet
import Derived.Deep.QuietTactic
import Derived.Deep.RegionWith
import Derived.Deep.AppendLies
import Derived.Deep.RegionLaw
namespace Go.Proofs.Ytnpfakjgocnkbaa
open Go.RowKit
set_option linter.unusedVariables false
theorem rdC_set1 {w : World} {b : Nat} {t : TypeId} {s : ByteArray} {q e e' : Int} (h : Box w b t (rdC s q e)) : Box (w.setCell ⟨b, 2, none⟩ (.int .i64 e')) b t (rdC s q e') := h.set 2 _
set_option maxHeartbeats 4000000 in
set_option maxRecDepth 100000 in
theorem dwithin_c (s : ByteArray) (l m q e : Int) (b : Nat) (W : World) (hs : s.size ≤ 1152921504606846976) (h : Box W b 79 (rdC s q e)) :
    Calls Try.prog 34 #[.pointer (some ⟨b, 0, none⟩), .int .i64 l, .int .i64 m] W (Moved W b 79 (.int .i64 (dnT s l m q e).1) s (dnT s l m q e).2.1 (dnT s l m q e).2.2) := by
  have cn := rrdn_c s q e b W hs h
  unfold dnT
  generalize rdN s q e = r at *
  obtain ⟨n, p, er⟩ := r
  simp only at cn ⊢
  clear h
  by_cases he : er = 0
  · subst he
    by_cases h1 : n < l
    · rw [if_pos ⟨rfl, .inl h1⟩]
      go_enter Try.func34, Try.ntmps34
      go_wp2_with fail
      with_reducible refine cn.mono ?_
      rintro en w1 ⟨rfl, hx, ho⟩
      have HX := Lib.hid hx
      have HO := Lib.hid ho
      obtain ⟨c0, c1, c2, f1, f2⟩ := hx.rd0
      clear hx ho cn
      go_wp2_with fail
      go_ret
      exact ⟨rfl, rdC_set1 HX.out, HO.out.set (.inl rfl) _⟩
    · by_cases h2 : m < n
      · rw [if_pos ⟨rfl, .inr h2⟩]
        go_enter Try.func34, Try.ntmps34
        go_wp2_with fail
        with_reducible refine cn.mono ?_
        rintro en w1 ⟨rfl, hx, ho⟩
        have HX := Lib.hid hx
        have HO := Lib.hid ho
        obtain ⟨c0, c1, c2, f1, f2⟩ := hx.rd0
        clear hx ho cn
        go_wp2_with fail
        go_ret
        exact ⟨rfl, rdC_set1 HX.out, HO.out.set (.inl rfl) _⟩
      · rw [if_neg (fun e => e.2.elim h1 h2)]
        go_enter Try.func34, Try.ntmps34
        go_wp2_with fail
        with_reducible refine cn.mono ?_
        rintro en w1 ⟨rfl, hx, ho⟩
        have HX := Lib.hid hx
        have HO := Lib.hid ho
        obtain ⟨c0, c1, c2, f1, f2⟩ := hx.rd0
        clear hx ho cn
        go_wp2_with fail
        go_ret
        exact ⟨rfl, HX.out, HO.out⟩
  · have he1 : (er == (0 : Int)) = false := by simp [he]
    rw [if_neg (fun e => he e.1)]
    go_enter Try.func34, Try.ntmps34
    go_wp2_with fail
    with_reducible refine cn.mono ?_
    rintro en w1 ⟨rfl, hx, ho⟩
    have HX := Lib.hid hx
    have HO := Lib.hid ho
    obtain ⟨c0, c1, c2, f1, f2⟩ := hx.rd0
    clear hx ho cn he
    go_wp2_with fail
    go_ret
    exact ⟨rfl, HX.out, HO.out⟩
theorem box_two {w : World} {p b : Nat} {t u : TypeId} {cs ds : Array Value} (h : Box w p t cs) (k : Box w b u ds) (hne : t ≠ u) : p ≠ b := fun e => by
  subst e
  unfold Box at h k
  rw [h] at k
  injection k with k
  injection k with _ k _
  exact hne k
/-- While the topics are read: the reader, the table. -/
structure TzS (W : World) (b p : Nat) (s : ByteArray) (n : Int) (F : List TE) (A : Option Addr) (c : Nat) (q e : Int) (w : World) : Prop where
  rd : Box w b 79 (rdC s q e)
  rt : RtIs w W.heap.size p n F A c
  bel : Below W.heap.size W w
  hb : W.heap.size ≤ b
  hp : W.heap.size ≤ p
theorem TzS.moved {W w w' : World} {b p c : Nat} {s : ByteArray} {n : Int} {F : List TE} {A : Option Addr} {q e q' e' : Int} (h : TzS W b p s n F A c q e w) (ho : Off (· = b) w w') (hx : Box w' b 79 (rdC s q' e')) : TzS W b p s n F A c q' e' w' :=
  ⟨hx, ⟨h.rt.box.off ho (box_two h.rt.box h.rd (by decide)), own_off h.rt.row ho (fun k e => own_ne h.rt.row h.rd (by decide) k e)⟩, h.bel.trans (ho.below h.bel.size (fun k hk => by subst hk; exact h.hb)), h.hb, h.hp⟩
theorem TzS.later {W w w' : World} {b p c : Nat} {s : ByteArray} {n : Int} {F : List TE} {A : Option Addr} {q e : Int} (h : TzS W b p s n F A c q e w) (hb : Below w.heap.size w w') : TzS W b p s n F A c q e w' :=
  ⟨h.rd.later hb, h.rt.later hb, h.bel.trans (hb.mono h.bel.size), h.hb, h.hp⟩
theorem TzS.err {W w : World} {b p c : Nat} {s : ByteArray} {n : Int} {F : List TE} {A : Option Addr} {q e : Int} (h : TzS W b p s n F A c q e w) (e' : Int) : TzS W b p s n F A c q e' (w.setCell ⟨b, 2, none⟩ (.int .i64 e')) :=
  h.moved (Off.one w ⟨b, 2, none⟩ _) (rdC_set1 h.rd)
theorem TzS.next {W w : World} {b p c : Nat} {s : ByteArray} {n : Int} {F : List TE} {A : Option Addr} {q e : Int} (h : TzS W b p s n F A c q e w) (n' : Int) : TzS W b p s n' F A c q e (w.setCell ⟨p, 0, none⟩ (.int .i64 n')) := by
  have hne := box_two h.rt.box h.rd (by decide)
  refine ⟨h.rd.far (fun e => hne e.symm) _, ⟨h.rt.box.set 0 _, own_off h.rt.row (Off.one w ⟨p, 0, none⟩ _) (fun k e => own_ne h.rt.row h.rt.box (by decide) k e)⟩, h.bel.trans ((Off.one w ⟨p, 0, none⟩ _).below h.bel.size (fun k hk => by have e : k = p := hk; subst e; exact h.hp)), h.hb, h.hp⟩
theorem TzS.cells {W w : World} {b p c : Nat} {s : ByteArray} {n : Int} {F : List TE} {A : Option Addr} {q e : Int} (h : TzS W b p s n F A c q e w) :
    w.cell? ⟨p, 0, none⟩ = some (.int .i64 n) ∧ w.cell? ⟨p, 1, none⟩ = some (.slice A F.length c) ∧ p < w.heap.size ∧ w.frozen? ⟨p, 0, none⟩ = false ∧ w.frozen? ⟨p, 1, none⟩ = false :=
  ⟨(h.rt.box.cell 0).trans rfl, (h.rt.box.cell 1).trans rfl, h.rt.box.lt, h.rt.box.frozen 0, h.rt.box.frozen 1⟩
/-- With the one that is read. -/
structure TyS (W : World) (b p : Nat) (s : ByteArray) (n : Int) (F : List TE) (A : Option Addr) (c : Nat) (q e : Int) (o : Nat) (nm : ByteArray) (id pt : Int) (w : World) : Prop where
  z : TzS W b p s n F A c q e w
  one : Box w o 39 #[.string nm, .int .i64 id, .int .i64 pt]
  lo : W.heap.size ≤ o
  ap : ∀ k, (Value.slice A F.length c).ownBlock = some k → k < o
theorem TyS.new {W w : World} {b p c : Nat} {s : ByteArray} {n : Int} {F : List TE} {A : Option Addr} {q e : Int} (h : TzS W b p s n F A c q e w) (nm : ByteArray) :
    TyS W b p s n F A c q e w.heap.size nm 0 0 (w.alloc (.cells #[.string nm, .int .i64 0, .int .i64 0] 39)) :=
  ⟨h.later ((Below.refl _ _).alloc (Nat.le_refl _) _), Box.new _ _ _, h.bel.size, fun k hk => (h.rt.row.lt k hk).2⟩
theorem TyS.moved {W w w' : World} {b p c o : Nat} {s nm : ByteArray} {n id pt : Int} {F : List TE} {A : Option Addr} {q e q' e' : Int} (h : TyS W b p s n F A c q e o nm id pt w) (ho : Off (· = b) w w') (hx : Box w' b 79 (rdC s q' e')) : TyS W b p s n F A c q' e' o nm id pt w' :=
  ⟨h.z.moved ho hx, h.one.off ho (box_two h.one h.z.rd (by decide)), h.lo, h.ap⟩
theorem TyS.later {W w w' : World} {b p c o : Nat} {s nm : ByteArray} {n id pt : Int} {F : List TE} {A : Option Addr} {q e : Int} (h : TyS W b p s n F A c q e o nm id pt w) (hb : Below w.heap.size w w') : TyS W b p s n F A c q e o nm id pt w' :=
  ⟨h.z.later hb, h.one.later hb, h.lo, h.ap⟩
theorem TyS.far {W w : World} {b p c o : Nat} {s nm : ByteArray} {n id pt : Int} {F : List TE} {A : Option Addr} {q e : Int} (h : TyS W b p s n F A c q e o nm id pt w) (j : Nat) (v : Value) : TzS W b p s n F A c q e (w.setCell ⟨o, j, none⟩ v) := by
  have h1 := box_two h.one h.z.rd (by decide)
  have h2 := box_two h.one h.z.rt.box (by decide)
  refine ⟨h.z.rd.far (fun e => h1 e.symm) _, ⟨h.z.rt.box.far (fun e => h2 e.symm) _, own_off h.z.rt.row (Off.one w ⟨o, j, none⟩ _) (fun k e hk => by have := h.ap k e; have hk' : k = o := hk; omega)⟩, h.z.bel.trans ((Off.one w ⟨o, j, none⟩ _).below h.z.bel.size (fun k hk => by have e : k = o := hk; subst e; exact h.lo)), h.z.hb, h.z.hp⟩
theorem TyS.id_ {W w : World} {b p c o : Nat} {s nm : ByteArray} {n id pt : Int} {F : List TE} {A : Option Addr} {q e : Int} (h : TyS W b p s n F A c q e o nm id pt w) (id' : Int) : TyS W b p s n F A c q e o nm id' pt (w.setCell ⟨o, 1, none⟩ (.int .i64 id')) := ⟨h.far 1 _, h.one.set 1 _, h.lo, h.ap⟩
theorem TyS.pt_ {W w : World} {b p c o : Nat} {s nm : ByteArray} {n id pt : Int} {F : List TE} {A : Option Addr} {q e : Int} (h : TyS W b p s n F A c q e o nm id pt w) (pt' : Int) : TyS W b p s n F A c q e o nm id pt' (w.setCell ⟨o, 2, none⟩ (.int .i64 pt')) := ⟨h.far 2 _, h.one.set 2 _, h.lo, h.ap⟩
theorem TyS.cells {W w : World} {b p c o : Nat} {s nm : ByteArray} {n id pt : Int} {F : List TE} {A : Option Addr} {q e : Int} (h : TyS W b p s n F A c q e o nm id pt w) :
    w.cell? ⟨o, 0, none⟩ = some (.string nm) ∧ w.cell? ⟨o, 1, none⟩ = some (.int .i64 id) ∧ w.cell? ⟨o, 2, none⟩ = some (.int .i64 pt) ∧ o < w.heap.size ∧ w.frozen? ⟨o, 1, none⟩ = false ∧ w.frozen? ⟨o, 2, none⟩ = false :=
  ⟨(h.one.cell 0).trans rfl, (h.one.cell 1).trans rfl, (h.one.cell 2).trans rfl, h.one.lt, h.one.frozen 1, h.one.frozen 2⟩
/-- One is put behind the others. -/
theorem TzS.appended {W w w' : World} {b p c g cap : Nat} {s : ByteArray} {n : Int} {F : List TE} {A : Option Addr} {q e : Int} (h : TzS W b p s n F A c q e w) {x : TE} {o : Obj}
    (hown : w'.ownsRow W.heap.size 39 3 (.slice (some ⟨g, 0, none⟩) (F.length + 1) cap) (F.length + 1) (rowT F ++ [.string (nmA x), .int .i64 x.id, .int .i64 x.parts])) (hg : (w.drew.alloc o).grownBy w' (Value.slice A F.length c).ownBlock) :
    w'.cell? ⟨p, 1, none⟩ = some (.slice A F.length c) ∧ w'.frozen? ⟨p, 1, none⟩ = false ∧ TzS W b p s n (F ++ [x]) (some ⟨g, 0, none⟩) cap q e (w'.setCell ⟨p, 1, none⟩ (.slice (some ⟨g, 0, none⟩) (F.length + 1) cap)) := by
  have hne := own_ne h.rt.row h.rt.box (by decide)
  have hne2 := own_ne h.rt.row h.rd (by decide)
  have hbA := (h.rt.box.drew).alloc o
  have hrA := (h.rd.drew).alloc o
  have hb' : Box w' p 28 #[.int .i64 n, .slice A F.length c] := (hg.block p hbA.lt (fun e => hne _ e.symm rfl)).trans hbA
  have hr' : Box w' b 79 (rdC s q e) := (hg.block b hrA.lt (fun e => hne2 _ e.symm rfl)).trans hrA
  have hpb2 := box_two h.rt.box h.rd (by decide)
  have hbw : Below W.heap.size W (w.drew.alloc o) := h.bel.trans ((((Below.refl W.heap.size w).drew).alloc (by have := h.bel.size; exact this) o))
  have hbw' : Below W.heap.size W w' := hbw.grown hg hbw.size (fun k e => (h.rt.row.lt k e).1)
  refine ⟨(hb'.cell 1).trans rfl, hb'.frozen 1, ⟨hr'.far (fun e => hpb2 e.symm) _, ⟨?_, ?_⟩, ?_, h.hb, h.hp⟩⟩
  · show Box _ p _ #[.int .i64 n, .slice (some ⟨g, 0, none⟩) (F ++ [x]).length cap]
    rw [List.length_append]
    exact hb'.set 1 _
  · show World.ownsRow _ W.heap.size _ 3 (.slice (some ⟨g, 0, none⟩) (F ++ [x]).length cap) (F ++ [x]).length (rowT (F ++ [x]))
    rw [rowT_app, List.length_append]
    exact own_off hown (Off.one w' ⟨p, 1, none⟩ _) (fun k e => own_ne hown hb' (by decide) k e)
  · exact hbw'.trans ((Off.one w' ⟨p, 1, none⟩ _).below hbw'.size (fun k hk => by have e : k = p := hk; subst e; exact h.hp))
theorem nm_back (nm : ByteArray) (id pt : Int) : nmA ⟨nm.data.toList, id, pt⟩ = nm := by unfold nmA; apply ByteArray.ext; simp
theorem TzS.put {W w w' : World} {b p c g cap : Nat} {s nm : ByteArray} {n id pt : Int} {F : List TE} {A : Option Addr} {q e : Int} (h : TzS W b p s n F A c q e w) {o : Obj}
    (hown : w'.ownsRow W.heap.size 39 3 (.slice (some ⟨g, 0, none⟩) (F.length + 1) cap) (F.length + 1) (rowT F ++ [.string nm, .int .i64 id, .int .i64 pt])) (hg : (w.drew.alloc o).grownBy w' (Value.slice A F.length c).ownBlock) :
    w'.cell? ⟨p, 1, none⟩ = some (.slice A F.length c) ∧ w'.frozen? ⟨p, 1, none⟩ = false ∧ TzS W b p s n (F ++ [⟨nm.data.toList, id, pt⟩]) (some ⟨g, 0, none⟩) cap q e (w'.setCell ⟨p, 1, none⟩ (.slice (some ⟨g, 0, none⟩) (F.length + 1) cap)) :=
  h.appended (x := ⟨nm.data.toList, id, pt⟩) (o := o) (by rw [nm_back]; exact hown) hg
theorem onInfo' : (Try.prog.info? 39).map (fun i => (i.zero, i.size, i.bytes)) = some (some (.agg #[.string ⟨#[]⟩, .int .i64 0, .int .i64 0]), 3, 32) := by kernel_rfl
/-- What the document's Parse comes to. -/
def GotRP (W : World) (s : ByteArray) (en : Ending) (w' : World) : Prop :=
  (paT s ≠ 0 ∧ en = .returned (.tuple #[.pointer none, .int .i64 (paT s)]) ∧ Below W.heap.size W w') ∨
    (paT s = 0 ∧ ∃ p A c, en = .returned (.tuple #[.pointer (some ⟨p, 0, none⟩), .int .i64 0]) ∧ RtIs w' W.heap.size p (tbT s).1 (tbT s).2.1 A c ∧ Below W.heap.size W w')
end Go.Proofs.Ytnpfakjgocnkbaa
