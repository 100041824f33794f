/- token.pieces: the iterator's contract. Condition: the text's length; the tables of utf8. -/
import Derived.Test.YtmnmgbbdjpfonaaDoorMtTkLet
import Derived.RangeFuncNested
import Derived.RangeFuncBound
import Derived.RangeFuncCalls
import Derived.RangeFuncLeaves
import Derived.RangeFuncBox
import Derived.Shelf.Abstract
import Derived.Shelf.RegionOpen
import Derived.OwnWalkIn
import Derived.TacticsInMore
import Derived.LoopNIn
import Derived.LoopIn
import Derived.Lib.OthersKept
namespace Go.Proofs.YtmnmgbbdjpfonaaDoor
open Go.RowKit Go.Shelf Go.Lib
set_option linter.unusedVariables false
attribute [local go_sem] Oper.semAt_some
/-- What a round keeps: all below n0, the walks, the block Bs. -/
def KpT (n₀ Bs : Nat) (W W' : World) : Prop := Below n₀ W W' ∧ KeepsWalks W W' ∧ W'.heap[Bs]? = W.heap[Bs]?
theorem KpT.trans {n₀ Bs : Nat} {A B C : World} (h : KpT n₀ Bs A B) (k : KpT n₀ Bs B C) : KpT n₀ Bs A C := ⟨h.1.trans k.1, walksK_t h.2.1 k.2.1, k.2.2.trans h.2.2⟩
theorem KpT.put {n₀ Bs B : Nat} (h1 : n₀ ≤ B) (h2 : Bs < B) (W : World) (l : Nat) (o o' : Obj) (hl : B ≤ l) (ho : W.heap[l]? = some o) (hc : o.isCells = false) (hw : o.isWalk = false) : KpT n₀ Bs W (W.putObj l o') :=
  ⟨⟨rfl, rfl, rfl, by simp [World.putObj], fun k hk => World.putObj_heap_other (by omega)⟩, KeepsWalks.putObj _ ho hw, World.putObj_heap_other (by omega)⟩
theorem abides_below {β : Type} {B : Nat} {J : β → World → Prop} (hJ : AbidesFrom B J) {s : β} {W W' : World} (h : J s W) (hb : Below W.heap.size W W') : J s W' :=
  hJ s W W' none h ⟨hb.os, hb.tape, hb.output, hb.size, fun k hk _ => hb.block k hk⟩ (fun r e => by cases e)
theorem abides_iter {β : Type} {B : Nat} {J : β → World → Prop} (hJ : AbidesFrom B J) {s : β} {W : World} {k : Nat} {t : ByteArray} {p : Nat} (h : J s W) (hB : B ≤ k) (hk : W.heap[k]? = some (.stringIter t p)) (q : Nat) : J s (W.iterAt k t q) :=
  hJ s W _ (some k) h ⟨rfl, rfl, rfl, by rw [iterAt_size]; exact Nat.le_refl _, fun j hj hne => iterAt_other W k j t q (fun e => hne (by rw [e]))⟩ (fun r e => by cases e; exact ⟨hB, _, hk, rfl⟩)
theorem piece_le (L : List UInt8) (a b : Nat) : (TK.piece L a b).length ≤ L.length := by unfold TK.piece; rw [List.length_take, List.length_drop]; omega
def rest (L : List UInt8) (pos bg : Nat) : List (List UInt8) := (TK.pcs L pos bg).map fun p => TK.piece L p.1 p.2
structure ItAt (W : World) (Bs : Nat) (L : List UInt8) (J : List (List UInt8) → World → Prop) (pos bg : Nat) (wr : World) : Prop where
  pos_le : pos ≤ L.length
  bg_le : bg ≤ pos
  it : wr.heap[W.heap.size]? = some (.stringIter (bs L) pos)
  pre : ∃ pre, pre ++ rest L pos bg = TK.rawp L ∧ J pre wr
  box : wr.cell? ⟨Bs, 0, none⟩ = some (.string (bs L))
  tabs : Tabs wr
theorem ItAt.lt {W wr : World} {Bs : Nat} {L : List UInt8} {J : List (List UInt8) → World → Prop} {pos bg : Nat} (h : ItAt W Bs L J pos bg wr) : W.heap.size < wr.heap.size := (Array.getElem?_eq_some_iff.1 h.it).1
/-- Between the step of the walk and the end of the round. -/
structure MidAt (W : World) (Bs : Nat) (L : List UInt8) (J : List (List UInt8) → World → Prop) (pos bg : Nat) (wr : World) : Prop where
  it : wr.heap[W.heap.size]? = some (.stringIter (bs L) (pos + TK.wd L pos))
  pre : ∃ pre, pre ++ rest L pos bg = TK.rawp L ∧ J pre wr
  box : wr.cell? ⟨Bs, 0, none⟩ = some (.string (bs L))
  tabs : Tabs wr
section
variable {W wr w' : World} {Bs : Nat} {L : List UInt8} {J : List (List UInt8) → World → Prop} {pos bg : Nat}
theorem ItAt.mid (h : ItAt W Bs L J pos bg wr) (hJ : AbidesFrom W.heap.size J) (hBl : Bs < W.heap.size) (h2 : 2 ≤ W.heap.size) : MidAt W Bs L J pos bg (wr.iterAt W.heap.size (bs L) (pos + (TK.dec L pos).2)) := by
  obtain ⟨pre, hp, hj⟩ := h.pre
  have k : ∀ j i, j < W.heap.size → (wr.iterAt W.heap.size (bs L) (pos + (TK.dec L pos).2)).cell? ⟨j, i, none⟩ = wr.cell? ⟨j, i, none⟩ := fun j i hj => World.cell?_of_block (a := ⟨j, i, none⟩) (iterAt_other wr _ j _ _ (by omega))
  exact ⟨iterAt_heap wr _ _ _ _ h.it, ⟨pre, hp, abides_iter hJ hj (Nat.le_refl _) h.it _⟩, (k Bs 0 hBl).trans h.box,
    ⟨fun c hc => (k 0 c (by omega)).trans (h.tabs.1 c hc), fun i hi => ⟨(k 1 _ (by omega)).trans (h.tabs.2 i hi).1, (k 1 _ (by omega)).trans (h.tabs.2 i hi).2⟩⟩⟩
theorem MidAt.later (h : MidAt W Bs L J pos bg wr) (hJ : AbidesFrom W.heap.size J) (hb : Below wr.heap.size wr w') : MidAt W Bs L J pos bg w' := by
  obtain ⟨pre, hp, hj⟩ := h.pre
  exact ⟨(hb.block _ (Array.getElem?_eq_some_iff.1 h.it).1).trans h.it, ⟨pre, hp, abides_below hJ hj hb⟩, (hb.cell (p := ⟨Bs, 0, none⟩) (tab_lt h.box)).trans h.box, h.tabs.below hb⟩
theorem MidAt.on (h : MidAt W Bs L J pos bg wr) (hlt : pos < L.length) (hbg : bg ≤ pos) (hl : TK.isL L pos = true) : ItAt W Bs L J (pos + TK.wd L pos) bg wr := by
  obtain ⟨pre, hp, hj⟩ := h.pre
  refine ⟨TK.wd_le L pos hlt, by omega, h.it, ⟨pre, ?_, hj⟩, h.box, h.tabs⟩
  rw [← hp]
  unfold rest
  rw [TK.pcs_let bg hlt hl]
theorem MidAt.skip (h : MidAt W Bs L J pos bg wr) (hlt : pos < L.length) (hbg : bg = pos) (hl : TK.isL L pos = false) : ItAt W Bs L J (pos + 1) (pos + 1) wr := by
  obtain ⟨pre, hp, hj⟩ := h.pre
  refine ⟨hlt, Nat.le_refl _, by have := h.it; rw [TK.isL_no hl] at this; exact this, ⟨pre, ?_, hj⟩, h.box, h.tabs⟩
  rw [← hp]
  unfold rest
  rw [TK.pcs_non bg hlt hl, if_neg (by omega)]
  rfl
theorem MidAt.told (h : MidAt W Bs L J pos bg wr) (hlt : pos < L.length) (hbg : bg < pos) (hl : TK.isL L pos = false) : ∃ pre, (pre ++ [TK.piece L bg pos]) ++ rest L (pos + 1) (pos + 1) = TK.rawp L ∧ J pre wr := by
  obtain ⟨pre, hp, hj⟩ := h.pre
  refine ⟨pre, ?_, hj⟩
  rw [← hp]
  unfold rest
  rw [TK.pcs_non bg hlt hl, if_pos hbg]
  simp
theorem MidAt.step {pre : List (List UInt8)} {n₀ : Nat} (h : MidAt W Bs L J pos bg wr) (hlt : pos < L.length) (hl : TK.isL L pos = false) (hp : (pre ++ [TK.piece L bg pos]) ++ rest L (pos + 1) (pos + 1) = TK.rawp L) (hj : J (pre ++ [TK.piece L bg pos]) w') (hk : KpT n₀ Bs wr w') (h2 : 2 ≤ n₀) : ItAt W Bs L J (pos + 1) (pos + 1) w' := by
  have e := h.it
  rw [TK.isL_no hl] at e
  exact ⟨hlt, Nat.le_refl _, hk.2.1.same _ _ e rfl, ⟨_, hp, hj⟩, (World.cell?_of_block (a := ⟨Bs, 0, none⟩) hk.2.2).trans h.box,
    ⟨fun c hc => (hk.1.cell (p := ⟨0, c, none⟩) (by show 0 < n₀; omega)).trans (h.tabs.1 c hc), fun i hi => ⟨(hk.1.cell (p := ⟨1, 2 * i, none⟩) (by show 1 < n₀; omega)).trans (h.tabs.2 i hi).1, (hk.1.cell (p := ⟨1, 2 * i + 1, none⟩) (by show 1 < n₀; omega)).trans (h.tabs.2 i hi).2⟩⟩⟩
theorem ItAt.ends (h : ItAt W Bs L J pos bg wr) (hlt : ¬ pos < L.length) : (bg = L.length → J (TK.rawp L) wr) ∧ (bg < L.length → ∃ pre, pre ++ [TK.piece L bg L.length] = TK.rawp L ∧ J pre wr) := by
  obtain ⟨pre, hp, hj⟩ := h.pre
  unfold rest at hp
  rw [TK.pcs_end bg hlt] at hp
  refine ⟨fun e => ?_, fun e => ⟨pre, ?_, hj⟩⟩
  · rw [if_neg (by omega)] at hp
    rw [← hp]
    simpa using hj
  · rw [if_pos e] at hp
    exact hp
theorem rawp_len {L : List UInt8} {pre : List (List UInt8)} {x : List UInt8} {r : List (List UInt8)} (h : (pre ++ [x]) ++ r = TK.rawp L) : pre.length < (TK.rawp L).length := by
  have h3 := congrArg List.length h
  simp at h3
  omega
theorem rawp_words (L : List UInt8) : (TK.rawp L).length = (TK.words L).length := by simp [TK.rawp, TK.words]
end
set_option maxHeartbeats 4000000 in
set_option maxRecDepth 100000 in
theorem pieces1_in (L : List UInt8) (hl : L.length ≤ 140737488351232) (n : Nat) (hn : 1 ≤ n) (l Bs n₀ : Nat) (J Jx : List (List UInt8) → World → Prop) (W : World) (hJ : AbidesFrom W.heap.size J) (hJx : AbidesFrom W.heap.size Jx)
    (hY : ∀ pre x W1, x.length ≤ L.length → J pre W1 → pre.length < (TK.rawp L).length → YieldAt Fence.wide (n - 1) Tryd.prog l #[.string (bs x)] W1 fun e W' =>
      (e = .returned (.bool true) ∧ J (pre ++ [x]) W' ∧ KpT n₀ Bs W1 W') ∨ (e = .returned (.bool false) ∧ Jx (pre ++ [x]) W'))
    (hBs : W.cell? ⟨Bs, 0, none⟩ = some (.string (bs L))) (hT : Tabs W) (hn0 : 2 ≤ n₀) (h2 : 2 ≤ W.heap.size) (h0 : J [] W) :
    CallsIn Fence.wide n Tryd.prog 52 #[.func (.yield l) #[] #[], .pointer (some ⟨Bs, 0, none⟩)] W fun e W' => (∃ v, e = .returned v) ∧
      ((∃ ys, ys = TK.rawp L ∧ J ys W') ∨ (∃ pre, pre <+: TK.rawp L ∧ Jx pre W')) := by
  refine callsIn_of_wp Tryd.func52 rfl trivial ?_ rfl
  simp only [Tryd.ntmps52, List.size_toArray, List.length_cons, List.length_nil, Nat.reduceAdd, Nat.reduceSub, Array.replicate_succ, Array.replicate_zero, List.push_toArray, List.append_toArray, List.nil_append, List.cons_append]
  have hBl : Bs < W.heap.size := tab_lt hBs
  have H0 : Hid (ItAt W Bs L J 0 0 (W.iter (bs L) 0)) := Lib.hid ⟨Nat.zero_le _, Nat.le_refl _, World.iter_heap _ _ _, ⟨[], rfl, abides_below hJ h0 ((Below.refl _ W).alloc (Nat.le_refl _) _)⟩,
    (World.cell?_of_block (a := ⟨Bs, 0, none⟩) (Below.heap_alloc W _ Bs hBl)).trans hBs, hT.below ((Below.refl _ W).alloc (Nat.le_refl _) _)⟩
  gi_wp2
  gi_loopw [3] (fun i wr => ∃ pos bg : Nat, i = .int .i64 bg ∧ ItAt W Bs L J pos bg wr) (fun _ wr => L.length - wr.iterPos W.heap.size)
  case atStart => exact ⟨0, 0, rfl, H0.out⟩
  case round =>
    obtain ⟨pos, bg, rfl, hR⟩ := hrel
    clear H0
    have hbl := hR.bg_le
    by_cases hlt : pos < L.length
    · have hnx := fun ty => run_next_any_at (P := Tryd.prog) wr W.heap.size (bs L) pos ty hR.it (by rw [bs_size]; exact hlt)
      have hM := hR.mid hJ hBl h2
      rw [dec_eq, bs_list] at hnx
      generalize wr.iterAt W.heap.size (bs L) (pos + (TK.dec L pos).2) = w2 at *
      have HM := Lib.hid hM
      have hbx := hM.box
      have HQ := Lib.hid (iterPos_of hR.it)
      clear hM hR
      have hz1 : (pos : Int) ≤ ((bs L).size : Int) := by rw [bs_size]; omega
      have cl := fun w (hT : Tabs w) => callsIn_wide (n := n - 1).2 (letter_c L pos w hlt hT)
      have hw1 := TK.wd_pos L pos
      gi_wp2_with fail
      refine ⟨trivial, (cl _ HM.out.tabs).mono ?_⟩
      rintro e w3 ⟨rfl, hb3⟩
      have HM3 := Lib.hid (HM.out.later hJ hb3)
      have hbx3 := HM3.out.box
      clear hb3 hbx cl HM hnx
      cases hlet : TK.isL L pos with
      | true =>
        have HI := Lib.hid (HM3.out.on hlt hbl hlet)
        have HP := Lib.hid (iterPos_of HM3.out.it)
        clear hlet
        gi_wp2
        go_roundw
        case rel => exact ⟨_, bg, rfl, HI.out⟩
        case measure => rw [HP.out, HQ.out]; omega
      | false =>
        have HN := Lib.hid hlet
        have HP := Lib.hid (iterPos_of HM3.out.it)
        by_cases hlt2 : bg < pos
        · obtain ⟨pre, hpre, hjp⟩ := HM3.out.told hlt hlt2 hlet
          obtain ⟨fn, tmps, assign, body, hy, hRn⟩ := hY pre _ w3 (piece_le _ _ _) hjp (rawp_len hpre)
          have HR := Lib.hid hRn
          have HE := Lib.hid hpre
          have hxx := bs_extract L bg pos
          rw [← hxx] at hy
          have hz2 : (bg : Int) ≤ (pos : Int) := by omega
          clear hjp hpre hRn hxx hlet
          gi_wp2_with fail
          refine HR.out.mono ?_
          rintro e W3 (⟨rfl, hJ3, hk3⟩ | ⟨rfl, hJx3⟩)
          · have HI := Lib.hid (HM3.out.step hlt HN.out HE.out hJ3 hk3 hn0)
            have HP3 := Lib.hid (iterPos_of HI.out.it)
            clear hJ3 hk3
            gi_wp2
            go_roundw
            case rel => exact ⟨pos + 1, pos + 1, by go_num, HI.out⟩
            case measure => rw [HP3.out, HQ.out]; omega
          · gi_wp2
            refine bodyPost_ret (results_none rfl _ _ _) rfl ?_
            exact ⟨⟨_, rfl⟩, .inr ⟨_, ⟨_, HE.out⟩, hJx3⟩⟩
        · have HI := Lib.hid (HM3.out.skip hlt (by omega) hlet)
          have e : decide ((bg : Int) < (pos : Int)) = false := decide_eq_false (by omega)
          have HW := Lib.hid (TK.isL_no hlet)
          clear hlet
          gi_wp2
          refine ⟨fun _ h => (by cases h), ?_⟩
          gi_wp2
          go_roundw
          case rel => exact ⟨pos + 1, pos + 1, by go_num, HI.out⟩
          case measure => rw [HP.out, HQ.out]; omega
    · have HE := Lib.hid (hR.ends hlt)
      have hnx := fun ty => run_next_end_at (P := Tryd.prog) wr W.heap.size (bs L) pos ty hR.it (by rw [bs_size]; exact hlt)
      have hbx := hR.box
      have hpl := hR.pos_le
      obtain rfl : pos = L.length := by omega
      have hz3 : (bg : Int) ≤ ((bs L).size : Int) := by rw [bs_size]; omega
      clear hR hlt
      by_cases hlt2 : bg < L.length
      · obtain ⟨pre, hpre, hjp⟩ := HE.out.2 hlt2
        obtain ⟨fn, tmps, assign, body, hy, hRn⟩ := hY pre _ wr (piece_le _ _ _) hjp (rawp_len (r := []) (by rw [List.append_nil]; exact hpre))
        have HR := Lib.hid hRn
        have HF := Lib.hid hpre
        have hxx := bs_extract L bg L.length
        have hyy : (bs L).extract bg (bs L).size = (bs L).extract bg L.length := by rw [bs_size]
        rw [← hxx, ← hyy] at hy
        have hz4 : (bg : Int) < ((bs L).size : Int) := by rw [bs_size]; omega
        clear hjp hpre hRn hxx hyy
        gi_wp2_with fail
        refine HR.out.mono ?_
        rintro e W3 (⟨rfl, hJ3, hk3⟩ | ⟨rfl, hJx3⟩)
        · gi_wp2
          go_end0
          exact ⟨⟨_, rfl⟩, .inl ⟨_, HF.out, hJ3⟩⟩
        · gi_wp2
          go_end0
          exact ⟨⟨_, rfl⟩, .inr ⟨_, ⟨[], by rw [List.append_nil]; exact HF.out⟩, hJx3⟩⟩
      · have HJ := Lib.hid (HE.out.1 (by omega))
        have e : decide ((bg : Int) < ((bs L).size : Int)) = false := decide_eq_false (by rw [bs_size]; omega)
        gi_wp2
        go_end0
        exact ⟨⟨_, rfl⟩, .inl ⟨_, rfl, HJ.out⟩⟩
end Go.Proofs.YtmnmgbbdjpfonaaDoor
