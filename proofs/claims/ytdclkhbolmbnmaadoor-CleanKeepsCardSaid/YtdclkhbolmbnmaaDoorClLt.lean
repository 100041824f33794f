/- clean: the last record of a key, by contracts. No condition but that they are not too many. -/
import Derived.Test.YtdclkhbolmbnmaaDoorClMn
namespace Go.Proofs.YtdclkhbolmbnmaaDoor
open Go.RowKit Go.Maps Go.ChangeMaps Go.WideMaps
set_option linter.unusedVariables false
theorem lastN_mem {S : List TE} {s : List UInt8} {e : TE} (h : lastN S s = some e) : e ∈ S ∧ e.name = s := by
  unfold lastN at h
  exact ⟨List.mem_reverse.1 (List.mem_of_find?_eq_some h), by have := List.find?_some h; simpa using this⟩
theorem ofN_last (B : List (List Rec)) (s : List UInt8) : ofN (lastF B) s = lastN (seqL 0 B) s := by
  unfold lastF
  rw [of_putAll, show ofN [] s = none from rfl, Option.or_none]
theorem seqR_at {i : Nat} {e : TE} : ∀ {j : Nat} {R : List Rec}, e ∈ seqR i j R → ∃ (m : Nat) (r : Rec), e.id = i ∧ e.parts = ((j + m : Nat) : Int) ∧ R[m]? = some r ∧ r.bare = false ∧ e.name = keyB r
  | j, [], h => by cases h
  | j, r :: l, h => by
    unfold seqR at h
    split at h
    · obtain ⟨m, q, h1, h2, h3, h4⟩ := seqR_at h
      exact ⟨m + 1, q, h1, by rw [h2]; congr 1; omega, h3, h4⟩
    · rename_i hb
      rcases List.mem_cons.1 h with rfl | h
      · exact ⟨0, r, rfl, rfl, rfl, by simpa using hb, rfl⟩
      · obtain ⟨m, q, h1, h2, h3, h4⟩ := seqR_at h
        exact ⟨m + 1, q, h1, by rw [h2]; congr 1; omega, h3, h4⟩
theorem seqL_at {e : TE} : ∀ {i : Nat} {B : List (List Rec)}, e ∈ seqL i B → ∃ (n m : Nat) (R : List Rec) (r : Rec), e.id = ((i + n : Nat) : Int) ∧ e.parts = (m : Int) ∧ B[n]? = some R ∧ R[m]? = some r ∧ r.bare = false ∧ e.name = keyB r
  | i, [], h => by cases h
  | i, R :: l, h => by
    rcases List.mem_append.1 (show e ∈ seqR i 0 R ++ seqL (i + 1) l from h) with h | h
    · obtain ⟨m, r, h1, h2, h3, h4⟩ := seqR_at h
      exact ⟨0, m, R, r, h1, by rw [h2, Nat.zero_add], rfl, h3, h4⟩
    · obtain ⟨n, m, Q, r, h1, h2, h3, h4⟩ := seqL_at h
      exact ⟨n + 1, m, Q, r, by rw [h1]; congr 1; omega, h2, h3, h4⟩
set_option maxHeartbeats 8000000 in
set_option maxRecDepth 100000 in
theorem latest_no (L : List BX) (A : Option Addr) (c : Nat) (key : ByteArray) (W : World) (h : BsIn W A L) (hl : L.length ≤ 1000) (hr : ∀ x ∈ L, x.2.1.length ≤ 1000) (hz : ∀ x ∈ L, ∀ y ∈ x.2.1, y.1.key.size ≤ maxLen) (hkz : key.size ≤ maxLen) (hn : ofN (lastF (L.map bxR)) key.data.toList = none) :
    Calls Tryd.prog 10 #[.slice A L.length c, .string key] W (Good W (.tuple #[.int .i64 0, .bool false])) := by
  have hk := lastOfKeys_c L A c W h hl hr hz
  clear h hr hz
  go_enter Tryd.func10, Tryd.ntmps10
  go_wp2_with fail
  (with_reducible refine hk.mono ?_)
  rintro e w1 ⟨g1, rfl, hg1, hkm, hb1⟩
  have lk := look_any hkm key hkz true
  rw [hn] at lk
  replace lk : (Instr.lookup 49 (.map (some g1)) (.string key) true).run Tryd.prog w1 = .ok (.tuple #[.agg #[.int .i64 0, .int .i64 0], .bool false]) w1 := lk
  have hb2 : Below W.heap.size W (w1.alloc (.cells #[.int .i64 0, .int .i64 0] 56)) := hb1.alloc hb1.size _
  have HB := Lib.hid hb2
  clear hk hkm hb1 hb2 hg1 hn
  go_wp2_with fail
  go_ret2
  exact ⟨by rfl, HB.out⟩
set_option maxHeartbeats 8000000 in
set_option maxRecDepth 100000 in
theorem latest_yes (L : List BX) (A : Option Addr) (c : Nat) (key : ByteArray) (W : World) (h : BsIn W A L) (hl : L.length ≤ 1000) (hr : ∀ x ∈ L, x.2.1.length ≤ 1000) (hz : ∀ x ∈ L, ∀ y ∈ x.2.1, y.1.key.size ≤ maxLen) (hkz : key.size ≤ maxLen) {i j : Nat} {x : BX} {y : RX} (hn : ofN (lastF (L.map bxR)) key.data.toList = some ⟨key.data.toList, i, j⟩) (hx : L[i]? = some x) (hy : x.2.1[j]? = some y) (hs : Pr.i64B (x.1.base + y.1.place)) :
    Calls Tryd.prog 10 #[.slice A L.length c, .string key] W (Good W (.tuple #[.int .i64 (x.1.base + y.1.place), .bool true])) := by
  have hk := lastOfKeys_c L A c W h hl hr hz
  have hil := (List.getElem?_eq_some_iff.1 hx).1
  have hjl := (List.getElem?_eq_some_iff.1 hy).1
  obtain ⟨b, off, rfl, hbl, hca⟩ := h (by omega)
  obtain ⟨hbx, hrs⟩ := hca i x hx
  obtain ⟨b2, off2, e2, hbl2, hcb⟩ := hrs (by omega)
  obtain ⟨hry, hri⟩ := hcb j y hy
  have HX := Lib.hid (And.intro hbx hry)
  clear hr hz hca hrs hcb hri hbx hry
  go_enter Tryd.func10, Tryd.ntmps10
  go_wp2_with fail
  (with_reducible refine hk.mono ?_)
  rintro e w1 ⟨g1, rfl, hg1, hkm, hb1⟩
  have lk := look_any hkm key hkz true
  rw [hn] at lk
  replace lk : (Instr.lookup 49 (.map (some g1)) (.string key) true).run Tryd.prog w1 = .ok (.tuple #[.agg #[.int .i64 i, .int .i64 j], .bool true]) w1 := lk
  obtain ⟨⟨z0, z1, z2, z3, z4, z5⟩, ⟨q0, q1, q2, q3, q4, q5, q6⟩⟩ := And.intro (HX.out.1.below hbl hb1) (HX.out.2.below hbl2 hb1)
  have hbl' : b < w1.heap.size := Nat.lt_of_lt_of_le hbl hb1.size
  have hbl2' : b2 < w1.heap.size := Nat.lt_of_lt_of_le hbl2 hb1.size
  have hb2 : Below W.heap.size W (w1.alloc (.cells #[.int .i64 i, .int .i64 j] 56)) := hb1.alloc hb1.size _
  obtain ⟨⟨base, span, prod, epoch, seq⟩, R, RA, rc⟩ := x
  obtain ⟨⟨pl, tm, ba, ky, gn, va, hs'⟩, hA2, hcc⟩ := y
  dsimp only at *
  subst e2
  have hb3 : Below W.heap.size W ((w1.alloc (.cells #[.int .i64 i, .int .i64 j] 56)).alloc (.cells #[.int .i64 base, .int .i64 span, .int .i64 prod, .int .i64 epoch, .int .i64 seq, .slice (some ⟨b2, off2, none⟩) R.length rc] 29)) := hb2.alloc hb2.size _
  have HB := Lib.hid hb3
  unfold Pr.i64B at hs
  obtain ⟨hs1, hs2⟩ := hs
  have hi0 : (0 : Int) ≤ (i : Int) := by omega
  have hj0 : (0 : Int) ≤ (j : Int) := by omega
  have hii : (i : Int) < (L.length : Int) := by omega
  have hjj : (j : Int) < (R.length : Int) := by omega
  clear hk hkm hb1 hb2 hb3 hg1 hn HX hx hy
  generalize hi6 : i * 6 = i6 at *
  generalize hj7 : j * 7 = j7 at *
  go_wp2_with fail
  go_quiet (fail)
  go_wp2_with fail
  go_ret2
  exact ⟨rfl, HB.out.trans ⟨rfl, rfl, rfl, Nat.le_refl _, fun _ _ => rfl⟩⟩
end Go.Proofs.YtdclkhbolmbnmaaDoor
