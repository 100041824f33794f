/- member: within, takes, find, names, Knows, New, by contracts. No condition. -/
import Derived.Test.YtlokhhjhckiloaaGreatMbIdx
namespace Go.Proofs.YtlokhhjhckiloaaGreat
open Go.RowKit
set_option linter.unusedVariables false
/-- Is a number within bounds? -/
def witB (n l m : Int) : Bool := decide (l ≤ n) && decide (n ≤ m)
theorem within_c (n l m : Int) (W : World) : Calls Tryz.prog 53 #[.int .i64 n, .int .i64 l, .int .i64 m] W (fun e w' => e = .returned (.bool (witB n l m)) ∧ w' = W) := by
  unfold witB
  by_cases h : l ≤ n
  · rw [decide_eq_true h]
    go_enter Tryz.func53, Tryz.ntmps53
    go_wp2
    go_ret
    exact ⟨by simp, rfl⟩
  · rw [decide_eq_false h]
    go_enter Tryz.func53, Tryz.ntmps53
    go_wp2
    go_ret
    exact ⟨rfl, rfl⟩
def timeB (now : Int) : Bool := witB now 0 1099511627776
theorem takes_c (p : Nat) (now : Int) (W : World) : Calls Tryz.prog 66 #[.pointer (some ⟨p, 0, none⟩), .int .i64 now] W (fun e w' => e = .returned (.bool (timeB now)) ∧ w' = W) := by
  unfold timeB
  have c1 := fun w => within_c now 0 1099511627776 w
  obtain ⟨b, hb⟩ : ∃ b, witB now 0 1099511627776 = b := ⟨_, rfl⟩
  rw [hb] at c1 ⊢
  go_enter Tryz.func66, Tryz.ntmps66
  go_wp2_with fail
  with_reducible refine (c1 _).mono ?_
  rintro e w1 ⟨rfl, rfl⟩
  go_wp2_with fail
  go_ret
  exact ⟨by cases b <;> rfl, rfl⟩
theorem takes_nil (now : Int) (W : World) : Calls Tryz.prog 66 #[.pointer none, .int .i64 now] W (fun e w' => e = .returned (.bool false) ∧ w' = W) := by
  go_enter Tryz.func66, Tryz.ntmps66
  go_wp2_with fail
  go_ret
  exact ⟨rfl, rfl⟩
/-- Where a member stands. -/
def posM (m : Int) (L : List MD) : Option Nat := L.findIdx? (fun x => decide (x.n = m))
theorem idxM_pos (m : Int) (L : List MD) : idxM (fun x => decide (x.n = m)) L = match posM m L with | some k => (k : Int) | none => -1 := rfl
theorem pos_at {m : Int} {L : List MD} {k : Nat} (h : posM m L = some k) : ∃ x, L[k]? = some x ∧ x.n = m := by
  obtain ⟨h1, h2, _⟩ := List.findIdx?_eq_some_iff_getElem.1 h
  exact ⟨_, List.getElem?_eq_getElem h1, by simpa using h2⟩
/-- What find gives: the member's place in the row, or nil. -/
def findV (v : Value) (o : Option Nat) : Value := match o, v with
  | some k, .slice (some a) _ _ => .pointer (some ⟨a.block, k * 5, none⟩)
  | _, _ => .pointer none
set_option maxHeartbeats 1000000 in
set_option maxRecDepth 100000 in
theorem find_c (B p : Nat) (v : Value) (R : List MV) (G : GD) (m : Int) (W : World) (h : GrIs W B p v R G) (hl : G.L.length ≤ 100000) :
    Calls Tryz.prog 68 #[.pointer (some ⟨p, 0, none⟩), .int .i64 m] W (Good W (findV v (posM m G.L))) := by
  obtain ⟨A, c, hv⟩ := own_slice h.row
  have hin := (h.rw_in hv).2
  have hlR : R.length ≤ 1000000 := by have := h.len; omega
  have hbx := Box.new W 3 #[.int .i64 m]
  have hB1 : Below W.heap.size W (W.alloc (.cells #[.int .i64 m] 3)) := (Below.refl _ _).alloc (Nat.le_refl _) _
  have h1 := h.later hB1
  have hin1 := (h1.rw_in hv).2
  have ci := index_c 102 #[.pointer (some ⟨W.heap.size, 0, none⟩)] (fun x => decide (x.n = m)) (fun _ _ => rfl) R A c (W.alloc (.cells #[.int .i64 m] 3)) hin1 hlR (fun _ => False) (find1_p W.heap.size m _ _ ((hbx.cell 0).trans rfl) hbx.lt (fun x => x))
  rw [h.abs, idxM_pos] at ci
  have HI := Lib.hid h
  have HB1 := Lib.hid hB1
  obtain ⟨b0, b1, b2, b3, b4, b5, b6, bl, _⟩ := gr7 h1.box
  have hvl := hv
  subst hvl
  have HPL : Hid (∀ k, posM m G.L = some k → k < R.length) := Lib.hid (fun k hk => by
    obtain ⟨x, hx, _⟩ := pos_at hk
    rw [h.len]; exact (List.getElem?_eq_some_iff.1 hx).1)
  have HIN := Lib.hid hin
  clear h hin hB1 h1 hin1 hbx hlR hl
  cases hpo : posM m G.L with
  | none =>
    rw [hpo] at ci
    dsimp only at ci
    clear HPL hpo
    unfold findV
    dsimp only
    go_enter Tryz.func68, Tryz.ntmps68
    go_wp2_with fail
    with_reducible refine ci.mono ?_
    rintro e w1 ⟨rfl, hb1⟩
    have HB := Lib.hid (bjoin HB1.out hb1 rfl rfl)
    clear hb1 ci
    go_wp2_with fail
    go_ret
    exact ⟨rfl, HB.out⟩
  | some k =>
    rw [hpo] at ci
    dsimp only at ci
    have hk := HPL.out k hpo
    obtain ⟨g, off, hA, hgl, _⟩ := HIN.out (by omega)
    subst hA
    obtain ⟨g', c', eg, hgl', hBg, hgp, _⟩ := HI.out.at_ (List.getElem?_eq_getElem hk)
    injection eg with eg _ ec
    injection eg with eg
    injection eg with eg eoff
    subst eg; subst eoff; subst ec
    clear HPL hpo HIN
    unfold findV
    dsimp only
    go_enter Tryz.func68, Tryz.ntmps68
    go_wp2_with fail
    with_reducible refine ci.mono ?_
    rintro e w1 ⟨rfl, hb1⟩
    have HB := Lib.hid (bjoin HB1.out hb1 rfl rfl)
    have h2 := HI.out.later HB.out
    obtain ⟨y0, y1, y2, y3, y4, y5, y6, yl, _⟩ := gr7 h2.box
    clear hb1 ci h2 b0 b1 b2 b3 b4 b5 b6 bl
    go_wp2_with fail
    go_ret
    exact ⟨by first | rfl | simp, HB.out⟩

/-- What names and Knows tell. -/
def nameE (m gen : Int) (G : GD) : Int := match posM m G.L with | none => 11 | some _ => if gen = G.gn then 0 else 10
def knowE (m gen : Int) (G : GD) : Int := if nameE m gen G = 0 then (if G.ph = 1 then 13 else 0) else nameE m gen G
theorem findV_some {w : World} {B p : Nat} {v : Value} {R : List MV} {G : GD} (h : GrIs w B p v R G) {m : Int} {k : Nat} (hk : posM m G.L = some k) : ∃ g c, v = .slice (some ⟨g, 0, none⟩) R.length c ∧ findV v (posM m G.L) = .pointer (some ⟨g, k * 5, none⟩) ∧ k < R.length := by
  obtain ⟨x, hx, _⟩ := pos_at hk
  have hkl : k < R.length := by rw [h.len]; exact (List.getElem?_eq_some_iff.1 hx).1
  obtain ⟨g, c, e, _⟩ := h.at_ (List.getElem?_eq_getElem hkl)
  refine ⟨g, c, e, ?_, hkl⟩
  rw [hk, e]
  rfl
theorem findV_none {v : Value} {m : Int} {L : List MD} (hk : posM m L = none) : findV v (posM m L) = .pointer none := by rw [hk]; rfl
set_option maxHeartbeats 1000000 in
set_option maxRecDepth 100000 in
theorem names_c (B p : Nat) (v : Value) (R : List MV) (G : GD) (m gen : Int) (W : World) (h : GrIs W B p v R G) (hl : G.L.length ≤ 100000) :
    Calls Tryz.prog 84 #[.pointer (some ⟨p, 0, none⟩), .int .i64 m, .int .i64 gen] W (Good W (.int .i64 (nameE m gen G))) := by
  have cf := find_c B p v R G m W h hl
  have HI := Lib.hid h
  unfold nameE
  cases hpo : posM m G.L with
  | none =>
    rw [findV_none hpo] at cf
    clear h hpo
    dsimp only
    go_enter Tryz.func84, Tryz.ntmps84
    go_wp2_with fail
    with_reducible refine cf.mono ?_
    rintro e w1 ⟨rfl, hb1⟩
    go_wp2_with fail
    go_ret
    exact ⟨rfl, hb1⟩
  | some k =>
    obtain ⟨g, c, _, e, _⟩ := findV_some h hpo
    rw [e] at cf
    clear h hpo e
    dsimp only
    by_cases hg : gen = G.gn
    · subst hg
      rw [if_pos rfl]
      go_enter Tryz.func84, Tryz.ntmps84
      go_wp2_with fail
      with_reducible refine cf.mono ?_
      rintro e w1 ⟨rfl, hb1⟩
      obtain ⟨y0, y1, y2, y3, y4, y5, y6, yl, _⟩ := gr7 (HI.out.later hb1).box
      go_wp2_with fail
      go_ret
      exact ⟨rfl, hb1⟩
    · rw [if_neg hg]
      have hg' : (gen == G.gn) = false := beq_eq_false_iff_ne.2 hg
      clear hg
      go_enter Tryz.func84, Tryz.ntmps84
      go_wp2_with fail
      with_reducible refine cf.mono ?_
      rintro e w1 ⟨rfl, hb1⟩
      obtain ⟨y0, y1, y2, y3, y4, y5, y6, yl, _⟩ := gr7 (HI.out.later hb1).box
      go_wp2_with fail
      go_ret
      exact ⟨rfl, hb1⟩
theorem knows_nil (m gen : Int) (W : World) : Calls Tryz.prog 50 #[.pointer none, .int .i64 m, .int .i64 gen] W (fun e w' => e = .returned (.int .i64 1) ∧ w' = W) := by
  go_enter Tryz.func50, Tryz.ntmps50
  go_wp2_with fail
  go_ret
  exact ⟨rfl, rfl⟩
theorem nameE_cases (m gen : Int) (G : GD) : nameE m gen G = 0 ∨ nameE m gen G = 10 ∨ nameE m gen G = 11 := by
  unfold nameE
  split
  · exact .inr (.inr rfl)
  · split
    · exact .inl rfl
    · exact .inr (.inl rfl)
set_option maxHeartbeats 1000000 in
set_option maxRecDepth 100000 in
theorem knows_c (B p : Nat) (v : Value) (R : List MV) (G : GD) (m gen : Int) (W : World) (h : GrIs W B p v R G) (hl : G.L.length ≤ 100000) :
    Calls Tryz.prog 50 #[.pointer (some ⟨p, 0, none⟩), .int .i64 m, .int .i64 gen] W (Good W (.int .i64 (knowE m gen G))) := by
  have cn := names_c B p v R G m gen W h hl
  have HI := Lib.hid h
  unfold knowE
  rcases nameE_cases m gen G with e | e | e <;> rw [e] at cn ⊢
  · rw [if_pos rfl]
    clear h e
    by_cases hp : G.ph = 1
    · rw [if_pos hp]
      have hp' : (G.ph == 1) = true := by rw [hp]; rfl
      clear hp
      go_enter Tryz.func50, Tryz.ntmps50
      go_wp2_with fail
      with_reducible refine cn.mono ?_
      rintro e w1 ⟨rfl, hb1⟩
      obtain ⟨y0, y1, y2, y3, y4, y5, y6, yl, _⟩ := gr7 (HI.out.later hb1).box
      go_wp2_with fail
      go_ret
      exact ⟨rfl, hb1⟩
    · rw [if_neg hp]
      have hp' : (G.ph == 1) = false := beq_eq_false_iff_ne.2 hp
      clear hp
      go_enter Tryz.func50, Tryz.ntmps50
      go_wp2_with fail
      with_reducible refine cn.mono ?_
      rintro e w1 ⟨rfl, hb1⟩
      obtain ⟨y0, y1, y2, y3, y4, y5, y6, yl, _⟩ := gr7 (HI.out.later hb1).box
      go_wp2_with fail
      go_ret
      exact ⟨rfl, hb1⟩
  all_goals
    rw [if_neg (by decide)]
    clear h e
    go_enter Tryz.func50, Tryz.ntmps50
    go_wp2_with fail
    with_reducible refine cn.mono ?_
    rintro e w1 ⟨rfl, hb1⟩
    go_wp2_with fail
    go_ret
    exact ⟨rfl, hb1⟩
theorem new_no (s r : Int) (h : (witB s 1 100000 && witB r 1 100000) = false) (W : World) : Calls Tryz.prog 23 #[.int .i64 s, .int .i64 r] W (fun e w' => e = .returned (.tuple #[.pointer none, .int .i64 1]) ∧ w' = W) := by
  have c1 := fun w => within_c s 1 100000 w
  have c2 := fun w => within_c r 1 100000 w
  cases h1 : witB s 1 100000 with
  | false =>
    rw [h1] at c1
    clear h h1
    go_enter Tryz.func23, Tryz.ntmps23
    go_wp2_with fail
    with_reducible refine (c1 _).mono ?_
    rintro en w1 ⟨rfl, rfl⟩
    go_wp2_with fail
    go_ret2
    exact ⟨rfl, rfl⟩
  | true =>
    rw [h1, Bool.true_and] at h
    rw [h1] at c1
    rw [h] at c2
    clear h h1
    go_enter Tryz.func23, Tryz.ntmps23
    go_wp2_with fail
    with_reducible refine (c1 _).mono ?_
    rintro en w1 ⟨rfl, rfl⟩
    go_wp2_with fail
    with_reducible refine (c2 _).mono ?_
    rintro en w2 ⟨rfl, rfl⟩
    go_wp2_with fail
    go_ret2
    exact ⟨rfl, rfl⟩
/-- A new group. -/
def newG (s r : Int) : GD := ⟨0, 0, 0, 0, [], s, r⟩
theorem new_ok (s r : Int) (h : (witB s 1 100000 && witB r 1 100000) = true) (W : World) : Calls Tryz.prog 23 #[.int .i64 s, .int .i64 r] W (fun e w' => e = .returned (.tuple #[.pointer (some ⟨W.heap.size, 0, none⟩), .int .i64 0]) ∧ w' = W.alloc (.cells #[.int .i64 0, .int .i64 0, .int .i64 0, .int .i64 0, .slice none 0 0, .int .i64 s, .int .i64 r] 109)) := by
  simp only [Bool.and_eq_true] at h
  have c1 := fun w => within_c s 1 100000 w
  have c2 := fun w => within_c r 1 100000 w
  rw [h.1] at c1
  rw [h.2] at c2
  clear h
  go_enter Tryz.func23, Tryz.ntmps23
  go_wp2_with fail
  with_reducible refine (c1 _).mono ?_
  rintro en w1 ⟨rfl, rfl⟩
  go_wp2_with fail
  with_reducible refine (c2 _).mono ?_
  rintro en w2 ⟨rfl, rfl⟩
  go_wp2_with fail
  go_ret2
  exact ⟨by first | rfl | simp, rfl⟩
theorem new_gr (B : Nat) (s r : Int) (W : World) (hB : B ≤ W.heap.size) : GrIs (W.alloc (.cells #[.int .i64 0, .int .i64 0, .int .i64 0, .int .i64 0, .slice none 0 0, .int .i64 s, .int .i64 r] 109)) B W.heap.size (.slice none 0 0) [] (newG s r) :=
  ⟨Box.new W _ _, hB, World.ownsRow_nil _ _ _ _, (fun x hx => by cases hx), rfl⟩
end Go.Proofs.YtlokhhjhckiloaaGreat
