/- Rows of headers; the first header of a name, the program's and the document's, by contracts. No condition. -/
import Derived.Test.YtmnmgbbdjpfonaaDoorRecBase
import Derived.Test.YtmnmgbbdjpfonaaDoorMtClone
import Derived.Test.YtmnmgbbdjpfonaaDoorMem
import Derived.Test.YtmnmgbbdjpfonaaDoorNum
import Derived.Laws.AppendOwn
import Derived.RegionTactic
import Derived.BigQuiet
import Derived.Deep.QuietTactic
import Derived.Deep.DeepCutAuto
namespace Go.Proofs.YtmnmgbbdjpfonaaDoor
open Go.RowKit
set_option linter.unusedVariables false
/-- The cells of a list of headers. -/
def headCells (hs : List Hd) : List Value := hs.flatMap fun h => [.string h.1, .string h.2]
theorem headCells_len (hs : List Hd) : (headCells hs).length = hs.length * 2 := by
  induction hs with
  | nil => rfl
  | cons h hs ih => simp [headCells] at ih ⊢; omega
theorem headCells_snoc (hs : List Hd) (h : Hd) : headCells (hs ++ [h]) = headCells hs ++ [.string h.1, .string h.2] := by simp [headCells]
theorem headCells_at {hs : List Hd} {j : Nat} {h : Hd} (hj : hs[j]? = some h) : (headCells hs)[j * 2]? = some (.string h.1) ∧ (headCells hs)[j * 2 + 1]? = some (.string h.2) := by
  induction hs generalizing j with
  | nil => simp at hj
  | cons x hs ih =>
    cases j with
    | zero =>
      have : x = h := by simpa using hj
      subst this
      exact ⟨rfl, rfl⟩
    | succ j =>
      have := ih (j := j) (by simpa using hj)
      have e : headCells (x :: hs) = [.string x.1, .string x.2] ++ headCells hs := rfl
      rw [e, show (j + 1) * 2 = (j * 2) + 2 by omega, show j * 2 + 2 + 1 = (j * 2 + 1) + 2 by omega]
      exact this
theorem hin_of_own {w : World} {base n c : Nat} {A : Option Addr} {hs : List Hd} (h : w.ownsRow base 42 2 (.slice A n c) hs.length (headCells hs)) : HIn w A hs := fun hp => by
  rcases h.2 with ⟨_, h0⟩ | ⟨g, cap, cur, hv, hb, hg, hrest⟩
  · omega
  · injection hv with h1 h2 h3
    subst h1
    refine ⟨g, 0, rfl, lt_of_there hg, fun j x hx => ?_⟩
    obtain ⟨a1, a2⟩ := headCells_at hx
    have c1 := World.ownsRow.cells h (g := g) rfl _ _ a1
    have c2 := World.ownsRow.cells h (g := g) rfl _ _ a2
    have e1 : ∀ i, (⟨g, 0, none⟩ : Addr).add i = ⟨g, i, none⟩ := fun i => by unfold Addr.add; split <;> simp_all
    rw [e1] at c1 c2
    simp only [Nat.zero_add]
    exact ⟨c1, c2⟩
theorem Off.to_grown {w w' : World} {b : Nat} (h : Off (· = b) w w') : w.grownBy w' (some b) := ⟨h.os, h.tape, h.output, h.size, fun k hk hne => h.block k hk (fun e => hne (by rw [e]))⟩
theorem infoHeader : (Tryd.prog.info? 42).map (fun i => (i.zero, i.size, i.bytes)) = some (some (.agg #[.string ⟨#[]⟩, .string ⟨#[]⟩]), 2, 32) := by kernel_rfl
theorem own_not {W wr : World} {b t size n : Nat} {v : Value} {xs : List Value} (h : wr.ownsRow W.heap.size t size v n xs) (hb : b < W.heap.size) : v.ownBlock = none ∨ v.ownBlock ≠ some b :=
  .inr fun e => by have := (h.lt b e).1; omega
theorem Box.kept_by {w w' : World} {b : Nat} {t : TypeId} {cs : Array Value} {row : Option Nat} (h : Box w b t cs) (hg : w.grownBy w' row) (hr : row = none ∨ row ≠ some b) : Box w' b t cs :=
  (hg.block b h.lt (fun e => by rcases hr with h1 | h1 <;> simp_all)).trans h
theorem own_slice {w : World} {base t size n : Nat} {v : Value} {xs : List Value} (h : w.ownsRow base t size v n xs) : ∃ A c, v = .slice A n c := by
  rcases h.2 with ⟨hv, h0⟩ | ⟨g, cap, cur, hv, _⟩
  · exact ⟨none, 0, by rw [hv, h0]⟩
  · exact ⟨_, _, hv⟩
theorem two_new (w : World) (t : TypeId) (x y : Value) : ∀ j u, [x, y][j]? = some u → (w.alloc (.cells #[x, y] t)).cell? ((⟨w.heap.size, 0, none⟩ : Addr).add j) = some u := by
  intro j u hj
  have e1 : ∀ i, (⟨w.heap.size, 0, none⟩ : Addr).add i = ⟨w.heap.size, i, none⟩ := fun i => by unfold Addr.add; split <;> simp_all
  rw [e1, (Box.new w t #[x, y]).cell]
  simpa using hj
/-- What Header hands back. -/
def headerG (hs : List Hd) (n : ByteArray) : ByteArray × Bool := match hs.find? (fun h => h.1 = n) with
  | some h => (h.2, true)
  | none => (⟨#[]⟩, false)
def Sb (x : ByteArray) (b : Bool) : Value := .tuple #[.string x, .bool b]
theorem str_same (a b : ByteArray) : (a.toList == b.toList) = decide (a = b) := by
  rw [Bool.eq_iff_iff, beq_iff_eq, decide_eq_true_eq, ByteArray.toList_eq, ByteArray.toList_eq]
  constructor
  · intro h; exact ByteArray.ext (Array.ext' h)
  · rintro rfl; rfl
structure SeekAt (W : World) (hs : List Hd) (n : ByteArray) (cs : Array Value) (k : Nat) (wr : World) : Prop where
  le : k ≤ hs.length
  no : ∀ h ∈ hs.take k, h.1 ≠ n
  bel : Below W.heap.size W wr
  box : Box wr W.heap.size 27 cs
theorem headerG_none {hs : List Hd} {n : ByteArray} (h : ∀ x ∈ hs, x.1 ≠ n) : headerG hs n = (⟨#[]⟩, false) := by
  unfold headerG
  rw [List.find?_eq_none.2 (fun x hx => by simpa using h x hx)]
theorem headerG_some {hs : List Hd} {n : ByteArray} {k : Nat} (hk : k < hs.length) (h : ∀ x ∈ hs.take k, x.1 ≠ n) (he : hs[k].1 = n) : headerG hs n = (hs[k].2, true) := by
  unfold headerG
  have h1 : hs.find? (fun h => decide (h.1 = n)) = some hs[k] := by
    rw [List.find?_eq_some_iff_append]
    refine ⟨by simpa using he, hs.take k, hs.drop (k + 1), ?_, fun x hx => by simpa using h x hx⟩
    rw [← List.drop_eq_getElem_cons hk, List.take_append_drop]
  rw [h1]
theorem take_no {hs : List Hd} {n : ByteArray} {k : Nat} (hk : k < hs.length) (h : ∀ x ∈ hs.take k, x.1 ≠ n) (he : hs[k].1 ≠ n) : ∀ x ∈ hs.take (k + 1), x.1 ≠ n := by
  intro x hx
  rw [List.take_succ_eq_append_getElem hk, List.mem_append] at hx
  rcases hx with hx | hx
  · exact h x hx
  · have : x = hs[k] := by simpa using hx
    rw [this]; exact he
set_option maxHeartbeats 2000000 in
set_option maxRecDepth 100000 in
theorem phead_c (r : Rec) (A : Option Addr) (c : Nat) (n : ByteArray) (W : World) (hR : RIn W r A c) (hv : ∀ h ∈ r.heads, h.2.size ≤ 281474976710656) :
    Calls Tryd.prog 32 #[recV r A c, .string n] W (Good W (Sb (headerG r.heads n).1 (headerG r.heads n).2)) := by
  obtain ⟨place, time, bare, key, gone, value, heads⟩ := r
  have hl : heads.length ≤ 140737488351232 := hR.len
  have HH := Lib.hid hR.heads
  simp only at HH
  clear hR
  unfold recV recC Sb
  simp only at *
  have hst : SeekAt W heads n #[.int .i64 place, .int .i64 time, .bool bare, .string key, .bool gone, .string value, .slice A heads.length c] 0 (W.alloc (.cells #[.int .i64 place, .int .i64 time, .bool bare, .string key, .bool gone, .string value, .slice A heads.length c] 27)) :=
    ⟨Nat.zero_le _, fun h hh => by simp at hh, (Below.refl _ _).alloc (Nat.le_refl _) _, Box.new _ _ _⟩
  have HST := Lib.hid hst
  clear hst
  have HG : Hid (headerG heads n = headerG heads n) := Lib.hid rfl
  generalize hG : headerG heads n = G at *
  have HGG := Lib.hid hG
  clear hG HG
  go_enter Tryd.func32, Tryd.ntmps32
  go_wp2
  go_loopw [7, 11] (fun x i wr => ∃ k : Nat, i = .int .i64 k ∧ SeekAt W heads n #[.int .i64 place, .int .i64 time, .bool bare, .string key, .bool gone, .string value, .slice A heads.length c] k wr) (fun _ i _ => heads.length - (intOf i).toNat)
  case atStart => exact ⟨0, rfl, HST.out⟩
  case round =>
    obtain ⟨k, rfl, hS⟩ := hrel
    have hle := hS.le
    clear HST
    by_cases hk : k < heads.length
    · obtain ⟨b, off, rfl, hbl, q1, q2⟩ := (HH.out.below hS.bel).at_ hk
      have hsz := hv _ (List.getElem_mem hk)
      have hcl := fun w => clone_c heads[k].2 w hsz
      have HS := Lib.hid hS
      clear hS hv
      by_cases he : heads[k].1 = n
      · have HF := Lib.hid (headerG_some hk HS.out.no he)
        have e1 : (heads[k].1.toList == n.toList) = true := by rw [str_same]; exact decide_eq_true he
        clear he
        generalize heads[k].1 = x1 at *
        generalize heads[k].2 = x2 at *
        go_wp2_with fail
        (with_reducible refine (hcl _).mono ?_)
        rintro e w1 ⟨rfl, hb1⟩
        go_wp2
        go_ret2
        have hG : G = (x2, true) := by rw [← HGG.out, HF.out]
        rw [hG]
        exact ⟨rfl, bjoin (HS.out.bel.alloc HS.out.bel.size _) hb1 rfl rfl⟩
      · have HN := Lib.hid (take_no hk HS.out.no he)
        have e1 : (heads[k].1.toList == n.toList) = false := by rw [str_same]; exact decide_eq_false he
        clear he
        generalize heads[k].1 = x1 at *
        generalize heads[k].2 = x2 at *
        go_wp2
        go_roundw
        case rel => exact ⟨k + 1, by go_num, hk, HN.out, HS.out.bel.alloc HS.out.bel.size _, HS.out.box.alloc _⟩
        case measure => simp [intOf]; omega
    · have hG : G = (⟨#[]⟩, false) := by rw [← HGG.out, headerG_none (fun x hx => hS.no x (by rw [List.take_of_length_le (by omega)]; exact hx))]
      have HF := Lib.hid hG
      have hb := hS.bel
      clear hS hG
      go_wp2
      go_ret2
      rw [HF.out]
      exact ⟨rfl, hb⟩
set_option maxHeartbeats 2000000 in
set_option maxRecDepth 100000 in
theorem rhead_c (r : Rec) (A : Option Addr) (c : Nat) (n : ByteArray) (W : World) (hR : RIn W r A c) :
    Calls Tryd.prog 19 #[recV r A c, .string n] W (Good W (Sb (headerG r.heads n).1 (headerG r.heads n).2)) := by
  obtain ⟨place, time, bare, key, gone, value, heads⟩ := r
  have hl : heads.length ≤ 140737488351232 := hR.len
  have HH := Lib.hid hR.heads
  simp only at HH
  clear hR
  unfold recV recC Sb
  simp only at *
  have hst : SeekAt W heads n #[.int .i64 place, .int .i64 time, .bool bare, .string key, .bool gone, .string value, .slice A heads.length c] 0 (W.alloc (.cells #[.int .i64 place, .int .i64 time, .bool bare, .string key, .bool gone, .string value, .slice A heads.length c] 27)) :=
    ⟨Nat.zero_le _, fun h hh => by simp at hh, (Below.refl _ _).alloc (Nat.le_refl _) _, Box.new _ _ _⟩
  have HST := Lib.hid hst
  clear hst
  generalize hG : headerG heads n = G at *
  have HGG := Lib.hid hG
  clear hG
  go_enter Tryd.func19, Tryd.ntmps19
  go_wp2
  go_loopw [6] (fun i wr => ∃ k : Nat, i = .int .i64 k ∧ SeekAt W heads n #[.int .i64 place, .int .i64 time, .bool bare, .string key, .bool gone, .string value, .slice A heads.length c] k wr) (fun i _ => heads.length - (intOf i).toNat)
  case atStart => exact ⟨0, rfl, HST.out⟩
  case round =>
    obtain ⟨k, rfl, hS⟩ := hrel
    have hle := hS.le
    have hbx := (hS.box.cell 6).trans (show _ = some (Value.slice A heads.length c) from rfl)
    clear HST
    by_cases hk : k < heads.length
    · obtain ⟨b, off, rfl, hbl, q1, q2⟩ := (HH.out.below hS.bel).at_ hk
      have HS := Lib.hid hS
      clear hS
      by_cases he : heads[k].1 = n
      · have HF := Lib.hid (headerG_some hk HS.out.no he)
        have e1 : (heads[k].1.toList == n.toList) = true := by rw [str_same]; exact decide_eq_true he
        clear he
        generalize heads[k].1 = x1 at *
        generalize heads[k].2 = x2 at *
        go_wp2
        go_ret2
        have hG : G = (x2, true) := by rw [← HGG.out, HF.out]
        rw [hG]
        exact ⟨rfl, HS.out.bel⟩
      · have HN := Lib.hid (take_no hk HS.out.no he)
        have e1 : (heads[k].1.toList == n.toList) = false := by rw [str_same]; exact decide_eq_false he
        clear he
        generalize heads[k].1 = x1 at *
        generalize heads[k].2 = x2 at *
        go_wp2
        go_roundw
        case rel => exact ⟨k + 1, by go_num, hk, HN.out, HS.out.bel, HS.out.box⟩
        case measure => simp [intOf]; omega
    · have hG : G = (⟨#[]⟩, false) := by rw [← HGG.out, headerG_none (fun x hx => hS.no x (by rw [List.take_of_length_le (by omega)]; exact hx))]
      have HF := Lib.hid hG
      have hb := hS.bel
      clear hS hG
      go_wp2
      go_ret2
      rw [HF.out]
      exact ⟨rfl, hb⟩
end Go.Proofs.YtmnmgbbdjpfonaaDoor
