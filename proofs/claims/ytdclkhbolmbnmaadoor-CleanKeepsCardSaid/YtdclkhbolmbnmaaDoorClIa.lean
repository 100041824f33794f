/- clean: what the document's Clean does in its rounds: a record more, a batch more, a copied record's fate. No condition. -/
import Derived.Test.YtdclkhbolmbnmaaDoorClI
import Derived.Test.YtdclkhbolmbnmaaDoorClDp
namespace Go.Proofs.YtdclkhbolmbnmaaDoor
open Go.RowKit Go.Maps Go.ChangeMaps Go.WideMaps
set_option linter.unusedVariables false
section
variable {W w : World}
theorem BtsI.app {B : Option Addr} {d : Nat} {M : List BX} {y : BX} (h : BtsI W w (.slice B M.length d) M) (hb : Below W.heap.size W w) (hy : RowI W w (.slice y.2.2.1 y.2.1.length y.2.2.2) y.2.1) (hl : M.length ≤ 1000) :
    ∃ (A' : Option Addr) (c' : Nat) (w' : World), (Builtin.append_ #[22, 22] 22 #[.slice B M.length d, .slice (some ⟨w.heap.size, 0, none⟩) 1 1]).run Tryd.prog (w.alloc (.cells (bnC y.1 (.slice y.2.2.1 y.2.1.length y.2.2.2)) 29)) = .ok (.slice A' (M.length + 1) c') w' ∧
      BtsI W w' (.slice A' (M.length + 1) c') (M ++ [y]) ∧ Below W.heap.size W w' := by
  have hA : Below w.heap.size w (w.alloc (.cells (bnC y.1 (.slice y.2.2.1 y.2.1.length y.2.2.2)) 29)) := (Below.refl _ _).alloc (Nat.le_refl _) _
  have h' := h.later hA
  have hy' := hy.later hA
  have hb' := hb.trans (hA.mono hb.size)
  have hbn := Box.new w 29 (bnC y.1 (.slice y.2.2.1 y.2.1.length y.2.2.2))
  generalize hw9 : (w.alloc (.cells (bnC y.1 (.slice y.2.2.1 y.2.1.length y.2.2.2)) 29)) = w9 at *
  obtain ⟨A', c', w', r1, o1, g1⟩ := catZ (t := 22) (sz := 6) (u := .slice (some ⟨w.heap.size, 0, none⟩) 1 1) (m := 1) (ys := (bnC y.1 (.slice y.2.2.1 y.2.1.length y.2.2.2)).toList) (by decide) Tryd.underlying22 batInfo rfl (by decide) h'.row (.inr ⟨_, _, rfl, rfl, news_at hbn⟩) (bat_one y.1 y.2.2.1 y.2.1.length y.2.2.2) hb'.size (by omega)
  exact ⟨A', c', w', r1, h'.grow hy' o1 g1, hb'.grown g1 hb'.size (fun j hj => (h'.row.lt j hj).1)⟩
/-- Kept records under way: their row from a place on, their headers. -/
structure KeI (W : World) (s0 : Nat) (w : World) (v : Value) (K : List RX) : Prop where
  row : w.ownsRow s0 39 7 v K.length (recsC K)
  heads : ∀ y ∈ K, HdI W w y
theorem KeI.rowI {s0 : Nat} {v : Value} {K : List RX} (h : KeI W s0 w v K) (hs : W.heap.size ≤ s0) : RowI W w v K := ⟨own_base h.row hs, h.heads⟩
theorem KeI.later {w' : World} {s0 : Nat} {v : Value} {K : List RX} (h : KeI W s0 w v K) (hb : Below w.heap.size w w') : KeI W s0 w' v K := ⟨own_below h.row hb, fun y hy => (h.heads y hy).later hb⟩
theorem KeI.off {w' : World} {s0 b t : Nat} {cs : Array Value} {v : Value} {K : List RX} (h : KeI W s0 w v K) (ho : Off (· = b) w w') (hb : Box w b t cs) (h1 : t ≠ 39) (h2 : t ≠ 62) : KeI W s0 w' v K :=
  ⟨own_off h.row ho (own_ne h.row hb h1), fun y hy => (h.heads y hy).off ho hb h2⟩
/-- A record more: what else is there stays. -/
theorem KeI.app {s0 : Nat} {B : Option Addr} {d : Nat} {K : List RX} {y : RX} (h : KeI W s0 w (.slice B K.length d) K) (hs0 : s0 ≤ w.heap.size) (hWs : W.heap.size ≤ s0) (hb : Below W.heap.size W w) (hy : HdI W w y) (hl : K.length ≤ 1000) :
    ∃ (A' : Option Addr) (c' : Nat) (w' : World), (Builtin.append_ #[27, 27] 27 #[.slice B K.length d, .slice (some ⟨w.heap.size, 0, none⟩) 1 1]).run Tryd.prog (w.alloc (.cells (recC y.1 y.2.1 y.2.2) 39)) = .ok (.slice A' (K.length + 1) c') w' ∧
      KeI W s0 w' (.slice A' (K.length + 1) c') (K ++ [y]) ∧ Below W.heap.size W w' ∧ w.heap.size ≤ w'.heap.size ∧ (∀ (b : Nat) (cs : Array Value), Box w b 29 cs → Box w' b 29 cs) ∧
      (∀ (v : Value) (M : List BX), BtsI W w v M → (∀ x ∈ M, ∀ j, x.2.2.1 = some j → j.block < s0) → BtsI W w' v M) := by
  have hA : Below w.heap.size w (w.alloc (.cells (recC y.1 y.2.1 y.2.2) 39)) := (Below.refl _ _).alloc (Nat.le_refl _) _
  have h' := h.later hA
  have hy' := hy.later hA
  have hb' := hb.trans (hA.mono hb.size)
  have hbn := Box.new w 39 (recC y.1 y.2.1 y.2.2)
  have hbx : ∀ (b : Nat) (cs : Array Value), Box w b 29 cs → Box (w.alloc (.cells (recC y.1 y.2.1 y.2.2) 39)) b 29 cs := fun b cs hx => hx.later hA
  have hbt : ∀ (v : Value) (M : List BX), BtsI W w v M → BtsI W (w.alloc (.cells (recC y.1 y.2.1 y.2.2) 39)) v M := fun v M hx => hx.later hA
  have hs9 : s0 ≤ (w.alloc (.cells (recC y.1 y.2.1 y.2.2) 39)).heap.size := Nat.le_trans hs0 hA.size
  have hs8 := hA.size
  generalize hw9 : (w.alloc (.cells (recC y.1 y.2.1 y.2.2) 39)) = w9 at *
  obtain ⟨A', c', w', r1, o1, g1⟩ := catZ (t := 27) (sz := 7) (u := .slice (some ⟨w.heap.size, 0, none⟩) 1 1) (m := 1) (ys := (recC y.1 y.2.1 y.2.2).toList) (by decide) Tryd.underlying27 recInfo rfl (by decide) h'.row (.inr ⟨_, _, rfl, rfl, news_at hbn⟩) (rec_one y.1 y.2.1 y.2.2) hs9 (by omega)
  refine ⟨A', c', w', r1, ⟨by rw [recsC_snoc, List.length_append]; exact o1, fun z hz => ?_⟩, hb'.grown g1 hb'.size (fun j hj => Nat.le_trans hWs (h'.row.lt j hj).1), Nat.le_trans hs8 g1.size, fun b cs hx => ?_, fun v M hM hm => ?_⟩
  · rcases List.mem_append.1 hz with hz | hz
    · exact (h'.heads z hz).grown h'.row (by decide) g1
    · have : z = y := by simpa using hz
      subst this
      exact hy'.grown h'.row (by decide) g1
  · exact (hbx b cs hx).kept_by g1 (.inr (fun e => own_ne h'.row (hbx b cs hx) (by decide) _ e rfl))
  · have hM' := hbt v M hM
    refine ⟨hM'.row.kept g1 (own_two hM'.row h'.row (by decide)), fun x hx => ⟨(hM'.recs x hx).row.kept g1 ?_, fun z hz => ((hM'.recs x hx).heads z hz).grown h'.row (by decide) g1⟩⟩
    cases hx1 : x.2.2.1 with
    | none => exact .inl rfl
    | some j =>
      refine .inr (fun e => ?_)
      have h1 := hm x hx j hx1
      have h2 := (h'.row.lt j.block (e.symm.trans rfl)).1
      omega
/-- The rows of batches lie in memory that is there. -/
theorem BtsI.old {v : Value} {M : List BX} (h : BtsI W w v M) : ∀ x ∈ M, ∀ j, x.2.2.1 = some j → j.block < w.heap.size := fun x hx j hj => ((h.recs x hx).row.lt j.block (by rw [hj]; rfl)).2
end
/-- What the program asks of a record is what the document asks. -/
theorem drop_doc {L : List BX} {k j : Nat} {x : BX} {y : RX} {before : Int} {b : Bool} (hx : L[k]? = some x) (hy : x.2.1[j]? = some y) (hbare : y.1.bare = false) (hb : b = true ↔ LaterP L k j y.1.key) :
    dropQ (lastF (L.map bxR)) k before j y.1 = (b || (y.1.gone && decide (y.1.time < before))) := by
  have h := place_later hx hy hbare
  unfold dropQ
  rw [hbare]
  generalize (lookA (ofN (lastF (L.map bxR)) (keyB y.1)) == (k : Int) && lookC (ofN (lastF (L.map bxR)) (keyB y.1)) == (j : Int)) = q at *
  cases b with
  | true =>
    have : q = false := by
      cases q with
      | false => rfl
      | true => exact absurd (hb.1 rfl) (h.1 rfl)
    subst this
    rfl
  | false =>
    have : q = true := h.2 (fun hl => by have := hb.2 hl; cases this)
    subst this
    rfl
theorem drop_bare {F : List TE} {k before : Int} {j : Nat} {r : Rec} (hbare : r.bare = true) : dropQ F k before j r = false := by unfold dropQ; rw [hbare]; rfl
end Go.Proofs.YtdclkhbolmbnmaaDoor
