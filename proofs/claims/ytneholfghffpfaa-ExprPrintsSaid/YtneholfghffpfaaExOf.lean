/- expr: a part's own text (the program's ownText), and a filter's text (the document's), by contracts. -/
import Derived.Test.YtneholfghffpfaaExGr
import Derived.Test.YtneholfghffpfaaPTake
import Derived.Test.YtneholfghffpfaaRTake
import Derived.Test.YtneholfghffpfaaRFixed
import Derived.BigQuiet
import Derived.Deep.QuietTactic
import Derived.LoopTactic
namespace Go.Proofs.Ytneholfghffpfaa
open Go.RowKit
set_option linter.unusedVariables false
theorem rof_c (n w : Int) (W : World) (hn : n ≤ 9223372036854775807) : Calls Try.prog 43 #[.int .i64 n, .int .i64 w] W (Good W (.string (fixG n w).1)) := by
  have hc := rfixed_c n w W hn
  generalize (fixG n w).1 = s at *
  generalize (fixG n w).2 = e at *
  go_enter Try.func43, Try.ntmps43
  go_wp2_with ((with_reducible refine hc.mono ?_); rintro e w1 ⟨rfl, hb⟩)
  go_ret
  exact ⟨rfl, hb⟩
/-- One byte as a text. -/
def oneB (x : Int) : ByteArray := ⟨#[byteB x]⟩
theorem fix1 {x : Int} (h0 : 0 ≤ x) (h1 : x ≤ 255) : (fixG x 1).1 = oneB x := by
  obtain ⟨k, rfl⟩ : ∃ k : Nat, x = k := ⟨x.toNat, by omega⟩
  have e : k / 256 = 0 := Nat.div_eq_of_lt (by omega)
  unfold fixG oneB
  rw [if_neg (by simp only [Int.toNat_natCast, show (1 : Int).toNat = 1 from rfl, Nat.pow_one, e]; omega)]
  show (⟨(be 1 k).toArray⟩ : ByteArray) = _
  simp [be, byteB, Nat.mod_eq_of_lt (show k < 256 by omega)]
theorem one_text (w : World) (x : Int) (g : Nat) (hg : w.heap.size = g) (h0 : 0 ≤ x) (h1 : x ≤ 255) :
    (convert 36 9 (.slice (some ⟨g, 0, none⟩) 1 1)).run Try.prog (w.alloc (.cells #[.int .u8 x] 5)) = .ok (.string (oneB x)) (w.alloc (.cells #[.int .u8 x] 5)) := by
  subst hg
  have hb : BRow (w.alloc (.cells #[.int .u8 x] 5)) 5 w.heap.size 1 [byteB x] :=
    ⟨#[.int .u8 x], 0, 0, heap_alloc_new w _, .inl (Nat.le_refl _), rfl, by simp, fun j c hj => by
      cases j with
      | zero =>
        have : byteB x = c := by simpa using hj
        subst this
        have := byteB_nat h0 h1
        simp [this]
      | succ j => simp at hj⟩
  exact hb.text 36 9 1 1 Try.underlying36 Try.underlying5 Try.underlying9 rfl
/-- A part's own text. -/
def ownB (t : Tr) : ByteArray := ⟨(ownL t).toArray⟩
theorem own_forms {t : Tr} (h : partB t = true) :
    ((t.op = 0 ∨ t.op = 3) ∧ ownB t = oneB t.op) ∨ ((t.op = 1 ∨ t.op = 2) ∧ ownB t = oneB t.op ++ oneB t.kids.length) ∨ (t.op = 4 ∧ t.name.size ≤ 1000 ∧ ownB t = oneB t.op ++ textG t.name) ∨
    (t.op = 5 ∧ t.name.size ≤ 1000 ∧ t.value.size ≤ 1000 ∧ ownB t = oneB t.op ++ textG t.name ++ textG t.value) ∨ ((t.op = 6 ∨ t.op = 7) ∧ t.value.size ≤ 1000 ∧ ownB t = oneB t.op ++ textG t.value) := by
  have hx : ∀ (b : UInt8) (l : List UInt8), (⟨(b :: l).toArray⟩ : ByteArray) = ⟨#[b]⟩ ++ ⟨l.toArray⟩ := fun b l => by apply ByteArray.ext; simp
  have hy : ∀ (l m : List UInt8), (⟨(l ++ m).toArray⟩ : ByteArray) = ⟨l.toArray⟩ ++ ⟨m.toArray⟩ := fun l m => by apply ByteArray.ext; simp
  unfold ownB ownL oneB
  rcases partB_forms h with ⟨a, _⟩ | ⟨a, _⟩ | ⟨a, _⟩ | ⟨a, _, b, _⟩ | ⟨a, _, b, c⟩ | ⟨a, _, _, c⟩
  · exact .inl ⟨.inl a, by rw [a]; rfl⟩
  · exact .inr (.inl ⟨a, by rw [if_pos a, hx]⟩)
  · exact .inl ⟨.inr a, by rw [a]; rfl⟩
  · exact .inr (.inr (.inl ⟨a, b, by rw [if_neg (by omega), if_pos a, hx, txt_textG]⟩))
  · exact .inr (.inr (.inr (.inl ⟨a, b, c, by rw [if_neg (by omega), if_neg (by omega), if_pos a, hx, hy, txt_textG, txt_textG, ByteArray.append_assoc]⟩)))
  · exact .inr (.inr (.inr (.inr ⟨a, c, by rw [if_neg (by omega), if_neg (by omega), if_neg (by omega), if_pos a, hx, txt_textG]⟩)))
theorem textG_size (s : ByteArray) (h : s.size ≤ 1000) : (textG s).size ≤ 1010 := by
  unfold textG
  have := put_size (s.size : Int)
  rw [ByteArray.size_append]
  omega
theorem oneB_size (x : Int) : (oneB x).size ≤ 1 := Nat.le_refl _
set_option maxHeartbeats 2000000 in
set_option maxRecDepth 100000 in
theorem own_c (t : Tr) (A : Option Addr) (c : Nat) (W : World) (hP : partB t = true) (hk : t.kids.length ≤ 255) : Calls Try.prog 31 #[exV t A c] W (Good W (.string (ownB t))) := by
  have HB := Lib.hid (Boxed.start W t A c)
  have hop : 0 ≤ t.op ∧ t.op ≤ 7 := by rcases partB_forms hP with ⟨a, _⟩ | ⟨a, _⟩ | ⟨a, _⟩ | ⟨a, _⟩ | ⟨a, _⟩ | ⟨a, _⟩ <;> omega
  have HF := Lib.hid (own_forms hP)
  obtain ⟨c0, c1, c2, c3⟩ := HB.out.cells
  have h1 := one_text (W.alloc (.cells (exC t A c) 24)) t.op (W.heap.size + 1) (by simp) (by omega) (by omega)
  have h2 := one_text ((W.alloc (.cells (exC t A c) 24)).alloc (.cells #[.int .u8 t.op] 5)) t.kids.length (W.heap.size + 1 + 1) (by simp) (by omega) (by omega)
  have hb2 : Below W.heap.size W ((W.alloc (.cells (exC t A c) 24)).alloc (.cells #[.int .u8 t.op] 5)) := HB.out.bel.alloc (by simp) _
  have hb3 := hb2.alloc (by simp; omega) (.cells #[.int .u8 (t.kids.length : Int)] 5)
  have HB2 := Lib.hid hb2
  have HB3 := Lib.hid hb3
  have HC2 := Lib.hid ((HB.out.box.alloc (.cells #[.int .u8 t.op] 5)))
  have d3 := HC2.out.cell 3
  have d2 := HC2.out.cell 2
  have d1 := HC2.out.cell 1
  have d0 := HC2.out.cell 0
  have hz := oneB_size t.op
  have hz2 := oneB_size t.kids.length
  have hcat1 := add_run (P := Try.prog) (oneB_size t.op) (oneB_size t.kids.length) (by decide)
  clear hb2 hb3
  have ht := fun s w hs => text_c s w hs
  clear hP
  unfold exV exC at *
  generalize ownB t = R at *
  generalize t.op = o at *
  generalize t.name = nm at *
  generalize t.value = vl at *
  generalize t.kids.length = K at *
  rcases HF.out with ⟨q, hR⟩ | ⟨q, hR⟩ | ⟨q, z1, hR⟩ | ⟨q, z1, z2, hR⟩ | ⟨q, z2, hR⟩
  · have HR := Lib.hid hR
    clear hR HF
    rcases q with rfl | rfl
    all_goals
      go_enter Try.func31, Try.ntmps31
      go_wp2_with fail
      go_ret
      rw [HR.out]
      exact ⟨rfl, HB2.out⟩
  · have HR := Lib.hid hR
    clear hR HF
    generalize oneB (K : Int) = y at *
    rcases q with rfl | rfl
    all_goals
      go_enter Try.func31, Try.ntmps31
      go_wp2_with fail
      go_ret
      rw [HR.out]
      exact ⟨rfl, HB3.out⟩
  · have HR := Lib.hid hR
    have ht1 := fun w => ht nm w (by omega)
    have hsz := textG_size nm z1
    have hcat := add_run (P := Try.prog) hz hsz (by decide)
    clear hR HF ht
    subst q
    generalize textG nm = x at *
    go_enter Try.func31, Try.ntmps31
    go_wp2_with fail
    with_reducible refine (ht1 _).mono ?_
    rintro en w1 ⟨rfl, hb1⟩
    go_wp2_with fail
    go_ret
    rw [HR.out]
    exact ⟨rfl, bjoin HB2.out hb1 rfl rfl⟩
  · have HR := Lib.hid hR
    have ht1 := fun w => ht nm w (by omega)
    have ht2 := fun w => ht vl w (by omega)
    have hsz := textG_size nm z1
    have hsz2 := textG_size vl z2
    have hcat := add_run (P := Try.prog) hz hsz (by decide)
    have hcat2 := add_run (P := Try.prog) (cat_le hz hsz) hsz2 (by decide)
    clear hR HF ht
    subst q
    generalize textG nm = x at *
    generalize textG vl = y at *
    go_enter Try.func31, Try.ntmps31
    go_wp2_with fail
    with_reducible refine (ht1 _).mono ?_
    rintro en w1 ⟨rfl, hb1⟩
    have d2 := (HC2.out.later hb1).cell 2
    have HBE := Lib.hid (bjoin HB2.out hb1 rfl rfl)
    clear hb1
    go_wp2_with fail
    with_reducible refine (ht2 _).mono ?_
    rintro en w2 ⟨rfl, hb2⟩
    go_wp2_with fail
    go_ret
    rw [HR.out]
    exact ⟨rfl, bjoin HBE.out hb2 rfl rfl⟩
  · have HR := Lib.hid hR
    have ht1 := fun w => ht vl w (by omega)
    have hsz := textG_size vl z2
    have hcat := add_run (P := Try.prog) hz hsz (by decide)
    clear hR HF ht
    generalize textG vl = x at *
    rcases q with rfl | rfl
    all_goals
      go_enter Try.func31, Try.ntmps31
      go_wp2_with fail
      with_reducible refine (ht1 _).mono ?_
      rintro en w1 ⟨rfl, hb1⟩
      go_wp2_with fail
      go_ret
      rw [HR.out]
      exact ⟨rfl, bjoin HB2.out hb1 rfl rfl⟩
end Go.Proofs.Ytneholfghffpfaa
