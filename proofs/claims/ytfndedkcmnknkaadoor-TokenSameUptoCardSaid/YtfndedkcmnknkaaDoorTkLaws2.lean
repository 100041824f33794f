/- TokenJoined, TokenNone, TokenSame, walked. Condition: the texts' lengths; the tables of utf8. -/
import Derived.Test.YtfndedkcmnknkaaDoorTkLaws
import Derived.Laws.AppendOwnNone
namespace Go.Proofs.YtfndedkcmnknkaaDoor
open Go.RowKit
set_option linter.unusedVariables false
section
variable {P : Program}
/-- A row appended to a row of the call's own, whichever of them is none. -/
theorem append_row (w : World) (base : Nat) (t ty e : TypeId) (i : TypeInfo) (z : Value) (bytes : Nat) (ht : P.underlying t = some (.slice e)) (hi : P.info? e = some i) (hz : i.zero = some z) (hsize : i.size = 1) (hby : i.bytes = bytes) (hzs : z.cells.size = 1)
    (v : Value) (k : Nat) (xs : List Value) (hown : w.ownsRow base e 1 v k xs) (b2 : Nat) (u : Value) (m : Nat) (ys : List Value) (hsrc : w.ownsRow b2 e 1 u m ys) (hone : ∀ y ∈ ys, y.oneCell' = true)
    (h63 : k + m ≤ maxLen) (hbytes : (k + m) * bytes ≤ 140737488355328) (hbase : base ≤ w.heap.size) :
    ∃ v' w', (Builtin.append_ #[t, t] ty #[v, u]).run P w = .ok v' w' ∧ w'.ownsRow base e 1 v' (k + m) (xs ++ ys) ∧ w.grownBy w' v.ownBlock := by
  have hl := hsrc.1
  rcases hsrc.2 with ⟨rfl, h0⟩ | ⟨g, cap, cur, rfl, _, hg, _⟩
  · subst h0
    have hy : ys = [] := List.eq_nil_of_length_eq_zero (by simpa using hl)
    subst hy
    exact ⟨v, w, run_append_owned_none (P := P) (w := w) base t ty e i 1 ht hi v k xs hown, by simpa using hown, World.grownBy.refl w _⟩
  · obtain ⟨v', w', h1, h2, h3, _⟩ := run_append_own (P := P) w base t ty e i z 1 bytes ht hi hz hsize hby hzs (by decide) v k xs hown ⟨g, 0, none⟩ m cap ys (by simpa using hl)
      (fun j y hy => by
        have hj : j < m := by have := (List.getElem?_eq_some_iff.1 hy).1; omega
        have e1 : (⟨g, 0, none⟩ : Addr).add j = ⟨g, j, none⟩ := by unfold Addr.add; split <;> simp_all
        rw [e1]
        exact (hsrc.cellAt j (by omega)).trans hy) hone h63 hbytes hbase
    exact ⟨v', w', h1, h2, h3⟩
theorem wpList_append_row {ops : Array Oper} {rest : List Oper} {o : Oper} {a : Act} {Q : Exit → Act → World → Prop} (w : World) (hgd : o.guard = none) (s x : Operand) (t : TypeId)
    (ho : o.op = .call { callee := .builtin .append, args := #[s, x], argTypes := #[t, t] })
    (base : Nat) (e : TypeId) (i : TypeInfo) (z : Value) (bytes : Nat) (ht : P.underlying t = some (.slice e)) (hi : P.info? e = some i) (hz : i.zero = some z) (hsize : i.size = 1) (hby : i.bytes = bytes) (hzs : z.cells.size = 1)
    (v : Value) (k : Nat) (xs : List Value) (hs : a.eval s = v) (hown : w.ownsRow base e 1 v k xs) (b2 : Nat) (u : Value) (m : Nat) (ys : List Value) (hx : a.eval x = u) (hsrc : w.ownsRow b2 e 1 u m ys) (hone : ∀ y ∈ ys, y.oneCell' = true)
    (h63 : k + m ≤ maxLen) (hbytes : (k + m) * bytes ≤ 140737488355328) (hbase : base ≤ w.heap.size)
    (h : ∀ v' w', w'.ownsRow base e 1 v' (k + m) (xs ++ ys) → w.grownBy w' v.ownBlock → wpList P ops Q rest (a.put o.dst v') w') : wpList P ops Q (o :: rest) a w := by
  refine wpList_plain hgd fun K hK => ?_
  obtain ⟨v', w', hr, h2, h3⟩ := append_row (P := P) w base t o.type e i z bytes ht hi hz hsize hby hzs v k xs hown b2 u m ys hsrc hone h63 hbytes hbase
  unfold Oper.wp execOp
  simp only [ho, resolve, invoke, builtin, Sem.run_bind, Sem.run_pure, Result.andThen_ok, List.map_toArray, List.map_cons, List.map_nil, hs, hx, hr]
  exact hK _ _ (h v' w' h2 h3)
end
theorem strC_one (l : List (List UInt8)) : ∀ y ∈ strC l, y.oneCell' = true := by
  intro y hy
  unfold strC at hy
  rw [List.mem_map] at hy
  obtain ⟨x, _, rfl⟩ := hy
  rfl
theorem cat_le {a b : ByteArray} {m n : Nat} (h : a.size ≤ m) (k : b.size ≤ n) : (a ++ b).size ≤ m + n := by rw [ByteArray.size_append]; exact Nat.add_le_add h k
theorem add_run {P : Program} {a b : ByteArray} {m n : Nat} (h : a.size ≤ m) (k : b.size ≤ n) (hmn : m + n ≤ 9223372036854775807) (w : World) : (Op.stringOp .add a b).run P w = .ok (.string (a ++ b)) w :=
  run_string_add_sum (w := w) a b (Nat.le_trans (Nat.add_le_add h k) hmn)
set_option maxHeartbeats 4000000 in
set_option maxRecDepth 100000 in
theorem joined_w (A B : List UInt8) (W : World) (hA : A.length ≤ 1048576) (hB : B.length ≤ 1048576) (hT : Tabs W) : Calls Tryd.prog 7 #[.string (bs A), .string (bs B)] W (Yes W) := by
  obtain ⟨i0, hq, hq0, hq1, hq2⟩ := info_parts strInfo
  have nA := TK.words_count A
  have nB := TK.words_count B
  have nJ := TK.words_count (TK.join2 A B)
  have lJ := TK.join_len A B
  have c1 := words_c A (by omega) (by omega) W hT
  have c2 := fun w h => words_c B (by omega) (by omega) w h
  have c3 := fun w h => words_c (TK.join2 A B) (by omega) (by omega) w h
  have a1 := add_run (P := Tryd.prog) (a := bs A) (b := ⟨#[32]⟩) (m := 1048576) (n := 1) (by rw [bs_size]; exact hA) (by decide) (by decide)
  have a2 := add_run (P := Tryd.prog) (a := bs A ++ ⟨#[32]⟩) (b := bs B) (m := 1048577) (n := 1048576) (by rw [ByteArray.size_append, bs_size]; show A.length + 1 ≤ _; omega) (by rw [bs_size]; exact hB) (by decide)
  have eJ : bs A ++ ⟨#[32]⟩ ++ bs B = bs (TK.join2 A B) := by
    apply ByteArray.ext
    simp [bs, TK.join2]
  rw [eJ] at a2
  rw [TK.words_join] at c3
  have hone1 := strC_one (TK.words A)
  have hone2 := strC_one (TK.words B)
  clear eJ lJ nJ
  generalize bs (TK.join2 A B) = sJ at *
  generalize TK.words A = wA at *
  generalize TK.words B = wB at *
  go_enter Tryd.func7, Tryd.ntmps7
  go_wp2_with fail
  (with_reducible refine c1.mono ?_)
  rintro e w1 ⟨v, rfl, hr1, hb1⟩
  have HB1 := Lib.hid hb1
  have hs1 := hb1.size
  have hl1 : 0 + wA.length ≤ 1048576 := by omega
  clear hb1 c1
  go_wp2_with (first
    | (at_builtin; refine wpList_append_row _ rfl _ _ 25 rfl W.heap.size 9 i0 (.string ⟨#[]⟩) 16 Tryd.underlying25 hq hq0 hq1 hq2 rfl (.slice none 0 0) 0 [] rfl (World.ownsRow_nil _ _ _ _) W.heap.size v wA.length (strC wA) rfl hr1 hone1 (by unfold maxLen; omega) (by omega) hs1 ?_
       intro v1 w2 hown1 hgrow1
       have HB2 : Hid (Below W.heap.size W w2) := Lib.hid (HB1.out.grown hgrow1 HB1.out.size (fun k e => by cases e))
       have HO1 := Lib.hid hown1
       clear hown1 hgrow1 hr1 HB1)
    | fail)
  (with_reducible refine (c2 _ (hT.below HB2.out)).mono ?_)
  rintro e w3 ⟨v2, rfl, hr2, hb2⟩
  have HB3 := Lib.hid (HB2.out.trans (hb2.mono HB2.out.size))
  have hrv := own_below HO1.out hb2
  have hs3 := HB3.out.size
  have hrl := hrv.lt
  clear hb2 c2 HB2 HO1
  go_wp2_with (first
    | (at_builtin; refine wpList_append_row _ rfl _ _ 25 rfl W.heap.size 9 i0 (.string ⟨#[]⟩) 16 Tryd.underlying25 hq hq0 hq1 hq2 rfl v1 (0 + wA.length) ([] ++ strC wA) rfl hrv w2.heap.size v2 wB.length (strC wB) rfl hr2 hone2 (by unfold maxLen; omega) (by omega) hs3 ?_
       intro v3 w4 hown1 hgrow1
       have HB4 : Hid (Below W.heap.size W w4) := Lib.hid (HB3.out.grown hgrow1 HB3.out.size (fun k e => (hrl k e).1))
       have HO4 : Hid (w4.ownsRow W.heap.size 9 1 v3 (wA ++ wB).length (strC (wA ++ wB))) := Lib.hid (by
         have e1 : strC (wA ++ wB) = [] ++ strC wA ++ strC wB := by simp [strC]
         have e2 : (wA ++ wB).length = 0 + wA.length + wB.length := by simp
         rw [e1, e2]
         exact hown1)
       clear hown1 hgrow1 hr2 HB3 hrv hrl)
    | fail)
  (with_reducible refine (c3 _ (hT.below HB4.out)).mono ?_)
  rintro e w5 ⟨v5, rfl, hr5, hb5⟩
  have cs := tsame_c (wA ++ wB) _ _ v5 v3 w5 hr5 (own_below HO4.out hb5) (by rw [List.length_append]; omega)
  have HB5 := Lib.hid (HB4.out.trans (hb5.mono HB4.out.size))
  clear hr5 hb5 HB4 HO4 c3 a1 a2
  go_wp2_with fail
  (with_reducible refine cs.mono ?_)
  rintro e w6 ⟨rfl, hb6⟩
  have HB6 := Lib.hid (HB5.out.trans (hb6.mono HB5.out.size))
  clear hb6 HB5 cs
  go_wp2_with fail
  (with_reducible refine (live_c _ (hT.below HB6.out)).mono ?_)
  rintro e w7 ⟨rfl, hb7⟩
  have HB7 := Lib.hid (HB6.out.trans (hb7.mono HB6.out.size))
  clear hb7 HB6
  go_wp2
  go_ret
  exact ⟨rfl, HB7.out⟩
theorem tokenJoined_walk (a0 a1 : ByteArray) (W : World) (s0 : a0.size ≤ 140737488351232) (s1 : a1.size ≤ 140737488351232) (hT : Tabs W) {H : Type} (hk : Rows.uptoSmall H [DataW.lit (.string a0.data.toList), DataW.lit (.string a1.data.toList)] = true) : Calls Tryd.prog 7 #[.string a0, .string a1] W (Yes W) := by
  have hh := upto2 hk
  have h := joined_w a0.data.toList a1.data.toList W hh.1 hh.2.1 hT
  rw [bs_self, bs_self] at h
  exact h
end Go.Proofs.YtfndedkcmnknkaaDoor
