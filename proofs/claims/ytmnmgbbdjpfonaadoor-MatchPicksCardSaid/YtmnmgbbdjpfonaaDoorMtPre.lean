/- match: whether a text begins with another one. No condition. -/
import Derived.Test.YtmnmgbbdjpfonaaDoorMtHd
import Derived.Test.YtmnmgbbdjpfonaaDoorExChk
import Derived.Test.YtmnmgbbdjpfonaaDoorMtTkLive
namespace Go.Proofs.YtmnmgbbdjpfonaaDoor
open Go.RowKit
set_option linter.unusedVariables false
def preB (s p : ByteArray) : Bool := decide (p.size ≤ s.size) && decide (s.extract 0 p.size = p)
set_option maxHeartbeats 1000000 in
theorem slpre_c (s p : ByteArray) (W : World) (hs : s.size ≤ 1152921504606846976) (hp : p.size ≤ 1152921504606846976) : Calls Tryd.prog 43 #[.string s, .string p] W (Good W (.bool (preB s p))) := by
  by_cases h : (p.size : Int) ≤ (s.size : Int)
  · go_enter Tryd.func43, Tryd.ntmps43
    go_wp2_with fail
    go_ret
    refine ⟨congrArg (fun b => Ending.returned (.bool b)) (?_ : _ = preB s p), Below.refl _ _⟩
    unfold preB
    rw [decide_eq_true (by omega), Bool.true_and]
    first | done | rfl | exact str_same _ _ | (simp [str_same]; done) | skip
  · go_enter Tryd.func43, Tryd.ntmps43
    go_wp2_with fail
    go_ret
    refine ⟨?_, Below.refl _ _⟩
    have : preB s p = false := by unfold preB; rw [decide_eq_false (by omega)]; rfl
    rw [this]; rfl
theorem hpre_c (s p : ByteArray) (W : World) (hs : s.size ≤ 1152921504606846976) (hp : p.size ≤ 1152921504606846976) : Calls Tryd.prog 33 #[.string s, .string p] W (Good W (.bool (preB s p))) := by
  have hc := slpre_c s p W hs hp
  go_enter Tryd.func33, Tryd.ntmps33
  go_wp2_with fail
  with_reducible refine hc.mono ?_
  rintro e w1 ⟨rfl, hb⟩
  go_wp2_with fail
  go_ret
  exact ⟨rfl, hb⟩
/-- Whether one of some kids answers a. -/
def anyK (f : Tr → Bool) (a : Bool) (L : List Tr) : Bool := L.any (fun x => f x == a)
theorem anyK_yes {f : Tr → Bool} {a : Bool} {L : List Tr} {k : Nat} (hk : k < L.length) (h : f L[k] = a) : anyK f a L = true := by
  unfold anyK; rw [List.any_eq_true]; exact ⟨L[k], List.getElem_mem hk, by rw [h]; simp⟩
theorem anyK_no {f : Tr → Bool} {a : Bool} {L : List Tr} {k : Nat} (hk : ¬ k < L.length) (h : ∀ x ∈ L.take k, f x ≠ a) : anyK f a L = false := by
  rw [List.take_of_length_le (by omega)] at h
  unfold anyK; rw [List.any_eq_false]; intro x hx; have := h x hx; simpa using this
theorem take_ne {f : Tr → Bool} {a : Bool} {L : List Tr} {k : Nat} (hk : k < L.length) (h : ∀ x ∈ L.take k, f x ≠ a) (he : f L[k] ≠ a) : ∀ x ∈ L.take (k + 1), f x ≠ a := by
  intro x hx
  rw [List.take_succ_eq_append_getElem hk, List.mem_append] at hx
  rcases hx with hx | hx
  · exact h x hx
  · have : x = L[k] := by simpa using hx
    rw [this]; exact he
/-- A record's box. -/
theorem rec_cells {q : Nat} {w : World} {r : Rec} {A : Option Addr} {c : Nat} (h : Box w q 27 (recC r A c)) : w.cell? ⟨q, 0, none⟩ = some (.int .i64 r.place) ∧ w.cell? ⟨q, 1, none⟩ = some (.int .i64 r.time) ∧ w.cell? ⟨q, 2, none⟩ = some (.bool r.bare) ∧ w.cell? ⟨q, 3, none⟩ = some (.string r.key) ∧
    w.cell? ⟨q, 4, none⟩ = some (.bool r.gone) ∧ w.cell? ⟨q, 5, none⟩ = some (.string r.value) ∧ w.cell? ⟨q, 6, none⟩ = some (.slice A r.heads.length c) :=
  ⟨h.cell 0, h.cell 1, h.cell 2, h.cell 3, h.cell 4, h.cell 5, h.cell 6⟩
/-- What a filter lets through, one part, by its kids' answers. -/
def thruB (f : Tr → Bool) (r : Rec) (t : Tr) : Bool :=
  if t.op = 1 then !(anyK f false t.kids) else if t.op = 2 then anyK f true t.kids else if t.op = 3 then anyK f false t.kids
  else if t.op = 4 then (headerG r.heads t.name).2 else if t.op = 5 then (headerG r.heads t.name).2 && decide ((headerG r.heads t.name).1 = t.value)
  else if t.op = 6 then !r.bare && preB r.key t.value else if t.op = 7 then !r.gone && hasB r.value.data.toList t.value.data.toList else true
/-- What a record that is let through has to keep to. -/
structure RecSm (r : Rec) : Prop where
  key : r.key.size ≤ 1152921504606846976
  value : r.value.size ≤ 8000000000
  heads : ∀ h ∈ r.heads, h.2.size ≤ 281474976710656
/-- The two boxes that a call reads, beside the tree and the record. -/
structure Both (W : World) (q1 q2 : Nat) (t : Tr) (A : Option Addr) (c : Nat) (r : Rec) (Ar : Option Addr) (cr : Nat) (d : Nat) (w : World) : Prop where
  bel : Below W.heap.size W w
  bx : Box w q1 24 (exC t A c)
  br : Box w q2 27 (recC r Ar cr)
  tree : TrAt (fun _ => True) w d A t
  rin : RIn w r Ar cr
  tabs : Tabs w
theorem Both.later {W w w' : World} {q1 q2 : Nat} {t : Tr} {A : Option Addr} {c : Nat} {r : Rec} {Ar : Option Addr} {cr d : Nat} (h : Both W q1 q2 t A c r Ar cr d w) (hb : Below w.heap.size w w') : Both W q1 q2 t A c r Ar cr d w' :=
  ⟨h.bel.trans (hb.mono h.bel.size), h.bx.later hb, h.br.later hb, h.tree.below hb, h.rin.below hb, h.tabs.below hb⟩
theorem Both.cells {W w : World} {q1 q2 : Nat} {t : Tr} {A : Option Addr} {c : Nat} {r : Rec} {Ar : Option Addr} {cr d : Nat} (h : Both W q1 q2 t A c r Ar cr d w) :
    (w.cell? ⟨q1, 0, none⟩ = some (.int .i64 t.op) ∧ w.cell? ⟨q1, 1, none⟩ = some (.string t.name) ∧ w.cell? ⟨q1, 2, none⟩ = some (.string t.value) ∧ w.cell? ⟨q1, 3, none⟩ = some (.slice A t.kids.length c)) ∧
    w.cell? ⟨q2, 0, none⟩ = some (.int .i64 r.place) ∧ w.cell? ⟨q2, 1, none⟩ = some (.int .i64 r.time) ∧ w.cell? ⟨q2, 2, none⟩ = some (.bool r.bare) ∧ w.cell? ⟨q2, 3, none⟩ = some (.string r.key) ∧
    w.cell? ⟨q2, 4, none⟩ = some (.bool r.gone) ∧ w.cell? ⟨q2, 5, none⟩ = some (.string r.value) ∧ w.cell? ⟨q2, 6, none⟩ = some (.slice Ar r.heads.length cr) :=
  ⟨⟨h.bx.cell 0, h.bx.cell 1, h.bx.cell 2, h.bx.cell 3⟩, rec_cells h.br⟩
/-- What is known of the calls on kids. -/
def Down (g : Nat) (f : Tr → Bool) (r : Rec) (Ar : Option Addr) (cr : Nat) (L : List Tr) : Prop := ∀ x ∈ L, ∀ (d : Nat) (A : Option Addr) (c : Nat) (w : World), TrAt (fun _ => True) w d A x → RIn w r Ar cr → Tabs w → Calls Tryd.prog g #[exV x A c, recV r Ar cr] w (Good w (.bool (f x)))
set_option maxHeartbeats 2000000 in
set_option maxRecDepth 100000 in
theorem thru1_c (f : Tr → Bool) (a : Bool) (q1 q2 : Nat) (t : Tr) (A : Option Addr) (c : Nat) (r : Rec) (Ar : Option Addr) (cr d : Nat) (W : World) (h0 : Both W q1 q2 t A c r Ar cr d W) (ih : Down 22 f r Ar cr t.kids) :
    Calls Tryd.prog 31 #[.bool a, .pointer (some ⟨q1, 0, none⟩), .pointer (some ⟨q2, 0, none⟩)] W (Good W (.bool (anyK f a t.kids))) := by
  have hkl := h0.tree.node.kids
  have HB := Lib.hid h0
  have IH := Lib.hid ih
  obtain ⟨⟨x0, x1, x2, x3⟩, y0, y1, y2, y3, y4, y5, y6⟩ := h0.cells
  clear h0 ih
  have hc : ∀ w, Both W q1 q2 t A c r Ar cr d w → _ := fun w h => h.cells
  unfold Down exV exC recV recC at *
  go_enter Tryd.func31, Tryd.ntmps31
  go_wp2_with fail
  go_loopw [10] (fun i wr => ∃ k : Nat, i = .int .i64 k ∧ k ≤ t.kids.length ∧ (∀ x ∈ t.kids.take k, f x ≠ a) ∧ Both W q1 q2 t A c r Ar cr d wr) (fun i _ => t.kids.length - (intOf i).toNat)
  case atStart => exact ⟨0, rfl, Nat.zero_le _, by simp, HB.out⟩
  case round =>
    obtain ⟨k, rfl, hkl, hno, hB⟩ := hrel
    have HN := Lib.hid hno
    have HB2 := Lib.hid hB
    clear hB hno HB x0 x1 x2 x3 y0 y1 y2 y3 y4 y5 y6
    obtain ⟨⟨x0, x1, x2, x3⟩, y0, y1, y2, y3, y4, y5, y6⟩ := hc _ HB2.out
    by_cases hk : k < t.kids.length
    · obtain ⟨b, off, A', c', d', hd', rfl, ho, hlt, m0, m1, m2, m3, hkid⟩ := HB2.out.tree.at_ hk
      have HV := Lib.hid (HB2.out.later ((Below.refl _ _).alloc (Nat.le_refl _) (.cells #[.int .i64 (t.kids[k]).op, .string (t.kids[k]).name, .string (t.kids[k]).value, .slice A' (t.kids[k]).kids.length c'] 24)))
      obtain ⟨_, v0, v1, v2, v3, v4, v5, v6⟩ := hc _ HV.out
      have hkc := fun w (hb : Below wr.heap.size wr w) => IH.out t.kids[k] (List.getElem_mem hk) d' A' c' w (hkid.below hb) (HB2.out.rin.below hb) (HB2.out.tabs.below hb)
      go_wp2_with fail
      with_reducible refine (hkc _ ((Below.refl _ _).alloc (Nat.le_refl _) _)).mono ?_
      rintro en w2 ⟨rfl, hb2⟩
      have HB3 := Lib.hid (HV.out.later hb2)
      have HY : Hid (f t.kids[k] = a → anyK f a t.kids = true) := Lib.hid (fun h => anyK_yes hk h)
      have HZ : Hid (f t.kids[k] ≠ a → ∀ x ∈ t.kids.take (k + 1), f x ≠ a) := Lib.hid (fun h => take_ne hk HN.out h)
      clear hb2 m0 m1 m2 m3 v0 v1 v2 v3 v4 v5 v6 HV x0 x1 x2 x3 y0 y1 y2 y3 y4 y5 y6 HB2 HN hkc hkid
      generalize f t.kids[k] = v at *
      cases v <;> cases a
      · have hy := HY.out rfl
        have hb := HB3.out.bel
        clear HB3 HY HZ
        go_wp2_with fail
        go_ret
        exact ⟨by rw [hy]; rfl, hb⟩
      · go_wp2_with fail
        go_roundw
        case rel => exact ⟨k + 1, rfl, hk, HZ.out (by decide), HB3.out⟩
        case measure => simp [intOf]; omega
      · go_wp2_with fail
        go_roundw
        case rel => exact ⟨k + 1, rfl, hk, HZ.out (by decide), HB3.out⟩
        case measure => simp [intOf]; omega
      · have hy := HY.out rfl
        have hb := HB3.out.bel
        clear HB3 HY HZ
        go_wp2_with fail
        go_ret
        exact ⟨by rw [hy]; rfl, hb⟩
    · have hn := anyK_no hk HN.out
      have hb := HB2.out.bel
      clear HB2
      go_wp2_with fail
      go_ret
      exact ⟨by rw [hn]; rfl, hb⟩
end Go.Proofs.YtmnmgbbdjpfonaaDoor
