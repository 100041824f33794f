/- member: a group of the call's own; its calls. No condition but that calls are not too many. -/
import Derived.Test.YtlokhhjhckiloaaGreatMbGi
namespace Go.Proofs.YtlokhhjhckiloaaGreat
open Go.RowKit
set_option linter.unusedVariables false
/-- A group that the call has made, and what was there ahead. -/
structure GO (W w : World) (p : Nat) (v : Value) (k : Int) (G : GD) : Prop where
  is : ∃ R, GrIs w W.heap.size p v R G
  q : GQ k G
  n : GN G
  bel : Below W.heap.size W w
/-- What a call makes of it. -/
def GoR (W : World) (p : Nat) (v : Value) (w : World) (k : Int) (G : GD) (res : Value) (e : Ending) (w' : World) : Prop :=
  e = .returned res ∧ ∃ v', GO W w' p v' k G ∧ Off (GrS p v) w w' ∧ ∀ j, v'.ownBlock = some j → v.ownBlock = some j ∨ w.heap.size ≤ j
section
variable {W w w' : World} {p : Nat} {v : Value} {k : Int} {G : GD}
theorem GO.later (h : GO W w p v k G) (hb : Below w.heap.size w w') : GO W w' p v k G := ⟨h.is.elim fun R hR => ⟨R, hR.later hb⟩, h.q, h.n, h.bel.trans (hb.mono h.bel.size)⟩
theorem GO.lt (h : GO W w p v k G) : ∀ j, GrS p v j → W.heap.size ≤ j ∧ j < w.heap.size := fun j hj => by
  obtain ⟨R, hR⟩ := h.is
  rcases hj with rfl | e
  · exact ⟨hR.base, hR.box.lt⟩
  · exact hR.row.lt _ e
theorem GO.bump {j : Int} (h : GO W w p v k G) (hj : k ≤ j) : GO W w p v j G := ⟨h.is, h.q.mono hj, h.n, h.bel⟩
theorem GO.of_off {R' : List MV} {v' : Value} {G' : GD} (h : GO W w p v k G) (h' : GrIs w' W.heap.size p v' R' G') (ho : Off (GrS p v) w w') {j : Int} (hq : GQ j G') (hn : GN G') : GO W w' p v' j G' :=
  ⟨⟨R', h'⟩, hq, hn, h.bel.trans (ho.below h.bel.size (fun i hi => (h.lt i hi).1))⟩
theorem GO.new {s r : Int} (hb : Below W.heap.size W w) (hs : 1 ≤ s ∧ s ≤ 100000) (hr : 1 ≤ r ∧ r ≤ 100000) : GO W (w.alloc (.cells #[.int .i64 0, .int .i64 0, .int .i64 0, .int .i64 0, .slice none 0 0, .int .i64 s, .int .i64 r] 109)) w.heap.size (.slice none 0 0) 0 (newG s r) :=
  ⟨⟨[], new_gr W.heap.size s r w hb.size⟩, ⟨by simp [newG], ⟨by show 0 ≤ s; omega, hs.2⟩, ⟨by show 0 ≤ r; omega, hr.2⟩, ⟨Int.le_refl _, Int.le_refl _⟩, ⟨Int.le_refl _, Int.le_refl _⟩, fun x hx => by cases hx⟩, .inl rfl, hb.trans (((Below.refl _ _).alloc (Nat.le_refl _) _).mono hb.size)⟩
theorem GoR.of_wr {G' : GD} {res : Value} {j : Int} (h : GO W w p v k G) (hq : GQ j G') (hn : GN G') {e : Ending} {w' : World} (hw : Wr W.heap.size p v w G' res e w') : GoR W p v w j G' res e w' := by
  obtain ⟨rfl, v', R', h1, h2, h3⟩ := hw
  exact ⟨rfl, v', h.of_off h1 h2 hq hn, h2, h3⟩
theorem join_v (h : GO W w p v k G) (hk : k ≤ 999000) (m now : Int) (T : List ByteArray) (A : Option Addr) (c : Nat) (hT : StrIn w A T) (hTl : T.length ≤ 140737488351232) (hTz : ∀ s ∈ T, s.size ≤ 281474976710656) (hTS : 0 < T.length → ∀ a, A = some a → ¬ GrS p v a.block) :
    Calls Tryz.prog 40 #[.pointer (some ⟨p, 0, none⟩), .int .i64 m, .slice A T.length c, .int .i64 now] w (GoR W p v w (k + 2) (joinD m T now G) (.tuple #[.int .i64 (if joinE m T now G = 0 then joinM m G else 0), .int .i64 (joinE m T now G)])) := by
  obtain ⟨R, hR⟩ := h.is
  have := h.q.gn
  have := h.q.nx
  exact (join_c W.heap.size p v R G m now T A c w hR h.q.bd h.q.len ⟨by omega, by omega⟩ ⟨by omega, by omega⟩ h.bel.size hT hTl hTz hTS).mono fun e w' hw => GoR.of_wr h (h.q.join m now T hTz) (h.n.join m now T) hw
theorem beat_v (h : GO W w p v k G) (m gen now : Int) :
    Calls Tryz.prog 48 #[.pointer (some ⟨p, 0, none⟩), .int .i64 m, .int .i64 gen, .int .i64 now] w (GoR W p v w k (beatD m gen now G) (.int .i64 (beatE m gen now G))) := by
  obtain ⟨R, hR⟩ := h.is
  exact (beat_c W.heap.size p v R G m gen now w hR h.q.bd).mono fun e w' hw => GoR.of_wr h (h.q.beat m gen now) (h.n.beat m gen now) hw
theorem leave_v (h : GO W w p v k G) (hk : k ≤ 999000) (m now : Int) :
    Calls Tryz.prog 49 #[.pointer (some ⟨p, 0, none⟩), .int .i64 m, .int .i64 now] w (GoR W p v w (k + 1) (leaveD m now G) (.int .i64 (leaveE m now G))) := by
  obtain ⟨R, hR⟩ := h.is
  have := h.q.gn
  exact (leave_c W.heap.size p v R G m now w hR h.q.bd ⟨by omega, by omega⟩).mono fun e w' hw => GoR.of_wr h (h.q.leave m now) (h.n.leave m now) hw
theorem tick_v (h : GO W w p v k G) (hk : k ≤ 999000) (now : Int) :
    Calls Tryz.prog 47 #[.pointer (some ⟨p, 0, none⟩), .int .i64 now] w (GoR W p v w (k + 2) (tickD now G) (.tuple #[])) := by
  obtain ⟨R, hR⟩ := h.is
  have := h.q.gn
  exact (tick_c W.heap.size p v R G now w hR h.q.bd ⟨by omega, by omega⟩ (fun h2 => by
    rcases h.n.tick1 now with h0 | h0
    · rw [h2] at h0; cases h0
    · exact h0)).mono fun e w' hw => GoR.of_wr h (h.q.tick now) (h.n.tick now) hw
theorem knows_v (h : GO W w p v k G) (m gen : Int) :
    Calls Tryz.prog 50 #[.pointer (some ⟨p, 0, none⟩), .int .i64 m, .int .i64 gen] w (Good w (.int .i64 (knowE m gen G))) := by
  obtain ⟨R, hR⟩ := h.is
  exact knows_c W.heap.size p v R G m gen w hR h.q.bd.len
theorem view_v (h : GO W w p v k G) : Calls Tryz.prog 42 #[.pointer (some ⟨p, 0, none⟩)] w (GotVw w G.ph G.gn G.nx G.un G.L) := by
  obtain ⟨R, hR⟩ := h.is
  exact view_c W.heap.size p v R G w hR h.q.bd.len h.q.all
/-- What Sync gives. -/
def GoY (W : World) (p : Nat) (v : Value) (w : World) (k : Int) (G : GD) (P : List TX) (err : Int) (e : Ending) (w' : World) : Prop :=
  ∃ A c, e = .returned (.tuple #[.slice A P.length c, .int .i64 err]) ∧ w'.ownsRow w.heap.size 34 2 (.slice A P.length c) P.length (prtC P) ∧ ∃ v', GO W w' p v' k G ∧ Off (GrS p v) w w' ∧ ∀ j, v'.ownBlock = some j → v.ownBlock = some j ∨ w.heap.size ≤ j
theorem sync_v (h : GO W w p v k G) (m gen now : Int) (T : List TX) (A2 : Option Addr) (c2 : Nat) (round : Bool) (hT : TpIn w A2 T) (hTl : T.length ≤ 140737488351232) (hTz : ∀ t ∈ T, t.1.size ≤ 281474976710656) (hTS : 0 < T.length → ∀ a, A2 = some a → ¬ GrS p v a.block) :
    Calls Tryz.prog 44 #[.pointer (some ⟨p, 0, none⟩), .int .i64 m, .int .i64 gen, .slice A2 T.length c2, .bool round, .int .i64 now] w (GoY W p v w k (syncD m gen T round now G) (syncP m gen T round now G) (syncE m gen T now G)) := by
  obtain ⟨R, hR⟩ := h.is
  have hq := h.q.sync m gen T round now hTz
  refine (sync_c W.heap.size p v R G m gen now T A2 c2 round w hR h.q.bd h.q.len h.bel.size (fun x hx => (h.q.all x hx).1.1) hT hTl hTz hTS (fun x hx => (hq.all x hx).2)).mono ?_
  rintro e w' ⟨A, c, rfl, ho, v', R', h1, h2, h3⟩
  exact ⟨A, c, rfl, ho, v', h.of_off h1 h2 hq (h.n.sync m gen T round now), h2, h3⟩
end
theorem fieldV0 (a b c d : Int) (A : Option Addr) (n q : Nat) (w : World) : (Instr.field 57 (.agg #[.int .i64 a, .int .i64 b, .int .i64 c, .int .i64 d, .slice A n q]) 0).run Tryz.prog w = .ok (.int .i64 a) w := by kernel_rfl
theorem fieldV1 (a b c d : Int) (A : Option Addr) (n q : Nat) (w : World) : (Instr.field 57 (.agg #[.int .i64 a, .int .i64 b, .int .i64 c, .int .i64 d, .slice A n q]) 1).run Tryz.prog w = .ok (.int .i64 b) w := by kernel_rfl
theorem fieldV4 (a b c d : Int) (A : Option Addr) (n q : Nat) (w : World) : (Instr.field 57 (.agg #[.int .i64 a, .int .i64 b, .int .i64 c, .int .i64 d, .slice A n q]) 4).run Tryz.prog w = .ok (.slice A n q) w := by kernel_rfl
end Go.Proofs.YtlokhhjhckiloaaGreat
