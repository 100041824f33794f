/- What the contracts of varint and of the document's answer for it lean on: plain laws. No condition. -/
import Derived.Test.YtjnphajkoopkgaaGreatDoorProg
import Derived.Test.YtjnphajkoopkgaaGreatDoorVMath
import Derived.Test.YtjnphajkoopkgaaGreatDoorBytes
import Derived.WalkKit
import Derived.ProofKit
import Derived.LoopTactic
import Derived.Lib.Hide
import Derived.ScopeJumps
import Derived.WalkMore
import Derived.WalkLawsBesides
import Derived.IntWalk
import Derived.Deep.RegionWith
import Derived.Laws.Concat
import Derived.Laws.DeepStrings4
namespace Go.Proofs.YtjnphajkoopkgaaGreatDoor
open Go.RowKit
set_option linter.unusedVariables false
theorem wp_scope_label {P : Program} {Q : Exit → Act → World → Prop} {a : Act} {w : World} {c X : Code} (l : Nat) (J : Act → World → Prop) (μ : Act → World → Nat) (hf : findLabel c l = some (Code.skip.seq X))
    (pass : ∀ a w, J a w → X.wp P (Exit.jump l (fun a' w' => J a' w' ∧ μ a' w' < μ a w) Q) a w)
    (first : (∀ a w, J a w → X.wp P (Exit.jump l J Q) a w) → c.wp P (Exit.jump l J Q) a w) : (Code.scope c).wp P Q a w :=
  wp_scope_jumps l J μ hf (first fun a w h => wp_mono (pass a w h) fun e a' w' hq => by
    cases e <;> first | exact hq | exact ⟨hq.1, hq.2.1⟩) fun a w h => wp_seq (wp_skip (pass a w h))
theorem or128 {x : Nat} (h : x < 256) : bits .or .u8 ((x : Nat) : Int) 128 = ((x % 128 + 128 : Nat) : Int) := by
  have h1 : ∀ y : Fin 256, y.val ||| 128 = y.val % 128 + 128 := by decide +kernel
  rw [show (128 : Int) = ((128 : Nat) : Int) from rfl, u8_or_nat x 128 h (by decide), h1 ⟨x, h⟩]
def Good (W : World) (v : Value) (e : Ending) (w' : World) : Prop := e = .returned v ∧ Below W.heap.size W w'
structure RPutAt (W : World) (u : Nat) (c : Nat) (pre : List UInt8) (v : Value) (wr : World) : Prop where
  row : BSl wr 5 W.heap.size v pre
  bel : Below W.heap.size W wr
  lt : c < 128 ^ (10 - pre.length)
  len : pre.length < 10
  all : pre ++ encF (10 - pre.length) c = enc u
  small : c ≤ 18446744073709551615
theorem RPutAt.start (W : World) {u : Nat} (hu : u < 18446744073709551616) : RPutAt W u u [] (.slice none 0 0) W :=
  ⟨BSl.nil W 5 _, Below.refl _ _, lt10 hu, by decide, rfl, by omega⟩
theorem RPutAt.step {W wr w1 : World} {u c : Nat} {pre : List UInt8} {v v1 : Value} (h : RPutAt W u c pre v wr) (hc : ¬ c < 128) (hv : BSl w1 5 W.heap.size v1 (pre ++ [UInt8.ofNat (c % 128 + 128)])) (hb : Below W.heap.size W w1) :
    RPutAt W u (c / 128) (pre ++ [UInt8.ofNat (c % 128 + 128)]) v1 w1 := by
  have hl := h.len
  have hlt := h.lt
  have h9 : pre.length + 1 < 10 := by
    rcases Nat.lt_or_ge (pre.length + 1) 10 with h1 | h1
    · exact h1
    · exfalso
      have h2 : pre.length = 9 := by omega
      rw [h2] at hlt
      omega
  have e1 : 10 - pre.length = (10 - (pre.length + 1)) + 1 := by omega
  refine ⟨hv, hb, ?_, by simpa using h9, ?_, by have := h.small; omega⟩
  · rw [e1, Nat.pow_succ] at hlt
    rw [List.length_append]
    show c / 128 < 128 ^ (10 - (pre.length + 1))
    omega
  · rw [← h.all, List.append_assoc, List.length_append]
    show pre ++ ([UInt8.ofNat (c % 128 + 128)] ++ encF (10 - (pre.length + 1)) (c / 128)) = _
    rw [e1, encF, if_neg hc]
    rfl
theorem info5 : (Tryz.prog.info? 5).map (fun i => (i.zero, i.size, i.bytes)) = some (some (.int .u8 0), 1, 1) := by kernel_rfl
structure GetAt (l : List UInt8) (i code : Nat) : Prop where
  le : i ≤ 10
  len : i ≤ l.length
  going : Going (l.take i)
  all : code = val (l.take i) % 18446744073709551616
def GetJ (s : ByteArray) (a : Nat) (W : World) (a' : Act) (w' : World) : Prop := ∃ (i code : Nat) (u9 u10 u11 u12 u13 u14 u15 u16 u17 u18 u19 u20 u21 u22 u23 u24 u25 u26 u27 u28 u29 u30 u31 u32 u33 u34 u35 u36 u37 u38 u39 u40 u41 u42 u43 u44 u45 u46 u47  : Value),
  a' = { tmps := #[.string s, .int .i64 a, undef, undef, .int .i64 0, .int .i64 0, .int .i64 0, .int .u64 code, .int .i64 i, u9, u10, u11, u12, u13, u14, u15, u16, u17, u18, u19, u20, u21, u22, u23, u24, u25, u26, u27, u28, u29, u30, u31, u32, u33, u34, u35, u36, u37, u38, u39, u40, u41, u42, u43, u44, u45, u46, u47], defers := [] } ∧ GetAt (s.data.toList.drop a) i code ∧ w' = W
theorem and127 {x : Nat} (h : x < 256) : bits .and .u8 ((x : Nat) : Int) 127 = ((x % 128 : Nat) : Int) := by
  rw [show (127 : Int) = ((127 : Nat) : Int) from rfl, u8_and_nat x 127 h (by decide), nat_mask7]
theorem shl_u64 (x k : Nat) : IntKind.u64.wrap ((x : Int) * 2 ^ k) = ((x * 2 ^ k % 18446744073709551616 : Nat) : Int) := by
  simp [IntKind.wrap, IntKind.bits, IntKind.signed]
theorem GetAt.step {l : List UInt8} {i code : Nat} {b : UInt8} (h : GetAt l i code) (hb : l[i]? = some b) (hi : i < 10) (hg : 128 ≤ b.toNat) : GetAt l (i + 1) (val (l.take (i + 1)) % 18446744073709551616) :=
  ⟨by omega, (List.getElem?_eq_some_iff.1 hb).1, take_going h.going hb hg, rfl⟩
theorem drop_at {s : ByteArray} {a i : Nat} (h : a + i < s.size) : (s.data.toList.drop a)[i]? = some s[a + i] := by
  rw [List.getElem?_drop, List.getElem?_eq_getElem (by simpa using h)]; rfl
def Tri (x y z : Int) : Value := .tuple #[.int .i64 x, .int .i64 y, .int .i64 z]
structure RGetAt (l : List UInt8) (k : Nat) : Prop where
  le : k ≤ 10
  len : k ≤ l.length
  going : Going (l.take k)
theorem RGetAt.step {l : List UInt8} {k : Nat} {b : UInt8} (h : RGetAt l k) (hb : l[k]? = some b) (hk : k < 10) (hg : 128 ≤ b.toNat) : RGetAt l (k + 1) :=
  ⟨by omega, (List.getElem?_eq_some_iff.1 hb).1, take_going h.going hb hg⟩
theorem str_ne {a b : ByteArray} (h : a ≠ b) : (a.toList == b.toList) = false := by
  rw [ByteArray.toList_eq, ByteArray.toList_eq, beq_eq_false_iff_ne]
  intro e
  exact h (ByteArray.ext (Array.ext' e))
theorem dec_odd {V : Nat} (h : V % 2 = 1) : dec V = -((V / 2 : Nat) : Int) - 1 := by unfold dec; rw [if_pos h]
theorem dec_even {V : Nat} (h : ¬ V % 2 = 1) : dec V = ((V / 2 : Nat) : Int) := by unfold dec; rw [if_neg h]
theorem val_down {bs : List UInt8} {j : Nat} {b : UInt8} (hb : bs[j]? = some b) : (val (bs.drop (j + 1)) % 18446744073709551616 * 128 + b.toNat % 128) % 18446744073709551616 = val (bs.drop j) % 18446744073709551616 := by
  obtain ⟨hj, he⟩ := List.getElem?_eq_some_iff.1 hb
  rw [List.drop_eq_getElem_cons hj, he, val]
  omega
/-- What Get hands back at any place. -/
def getG (s : ByteArray) (p : Int) : Int × Int × Int := if p < 0 ∨ (s.size : Int) < p then (0, 0, 1) else getT p.toNat (s.data.toList.drop p.toNat)
theorem getT_err {a : Nat} {l : List UInt8} (h : (getT a l).2.2 ≠ 0) : (getT a l).1 = 0 ∧ (getT a l).2.1 = 0 := by
  unfold getT at h ⊢
  split
  · rename_i h0
    rw [if_pos h0] at h
    exact absurd rfl h
  · exact ⟨rfl, rfl⟩
theorem getT_ok {a : Nat} {l : List UInt8} (h : (getT a l).2.2 = 0) : ∃ k : Nat, (getT a l).2.1 = ((a + k : Nat) : Int) ∧ 0 < k ∧ k ≤ l.length ∧ k ≤ 10 ∧ -9223372036854775808 ≤ (getT a l).1 ∧ (getT a l).1 ≤ 9223372036854775807 := by
  have hc := cont_le 10 l
  have hr := dec_range (u := val (l.take (cont 10 l + 1)) % 18446744073709551616) (Nat.mod_lt _ (by decide))
  unfold getT at h ⊢
  unfold getR at h ⊢
  by_cases h1 : cont 10 l = 10
  · rw [if_pos h1] at h; simp at h
  · rw [if_neg h1] at h ⊢
    by_cases h2 : l.length ≤ cont 10 l
    · rw [if_pos h2] at h; simp at h
    · rw [if_neg h2] at h ⊢
      by_cases h3 : enc (val (l.take (cont 10 l + 1)) % 18446744073709551616) = l.take (cont 10 l + 1)
      · rw [if_pos h3]
        exact ⟨cont 10 l + 1, by simp, by omega, by omega, by omega, hr.1, hr.2⟩
      · rw [if_neg h3] at h; simp at h
theorem getG_err {s : ByteArray} {p : Int} (h : (getG s p).2.2 ≠ 0) : (getG s p).1 = 0 ∧ (getG s p).2.1 = 0 := by
  unfold getG at h ⊢
  split
  · exact ⟨rfl, rfl⟩
  · rename_i h0
    rw [if_neg h0] at h
    exact getT_err h
theorem getG_ok {s : ByteArray} {p : Int} (h : (getG s p).2.2 = 0) : ∃ q : Nat, (getG s p).2.1 = q ∧ p < q ∧ q ≤ s.size ∧ -9223372036854775808 ≤ (getG s p).1 ∧ (getG s p).1 ≤ 9223372036854775807 := by
  unfold getG at h ⊢
  by_cases h0 : p < 0 ∨ (s.size : Int) < p
  · rw [if_pos h0] at h; simp at h
  · rw [if_neg h0] at h ⊢
    obtain ⟨k, h1, h2, h3, _, h4, h5⟩ := getT_ok h
    have hl : (s.data.toList.drop p.toNat).length = s.size - p.toNat := by simp
    exact ⟨p.toNat + k, h1, by omega, by omega, h4, h5⟩
/-- What Take hands back. -/
def takeG (s : ByteArray) (p most : Int) : ByteArray × Int × Int :=
  if (getG s p).2.2 ≠ 0 then (⟨#[]⟩, 0, (getG s p).2.2) else
  if (getG s p).1 < 0 ∨ most < (getG s p).1 then (⟨#[]⟩, 0, 3) else
  if (s.size : Int) - (getG s p).2.1 < (getG s p).1 then (⟨#[]⟩, 0, 2) else
  (s.extract (getG s p).2.1.toNat ((getG s p).2.1 + (getG s p).1).toNat, (getG s p).2.1 + (getG s p).1, 0)
def Sri (r : ByteArray) (y z : Int) : Value := .tuple #[.string r, .int .i64 y, .int .i64 z]
theorem slice_str {P : Program} (w : World) (t : TypeId) (s : ByteArray) (k j : Nat) (h : P.underlying t = some .string) (h1 : k ≤ j) (h2 : j ≤ s.size) :
    (Instr.slice t (.string s) (some (.int .i64 (k : Int))) (some (.int .i64 (j : Int))) none).run P w = .ok (.string (s.extract k j)) w := by
  rw [run_slice_string_if w t s .i64 .i64 k j h, if_pos ⟨by omega, by omega⟩, if_pos ⟨by omega, by omega⟩]
  rfl
theorem code_len {n : Nat} (h : n ≤ 281474976710656) : -9223372036854775808 ≤ (n : Int) ∧ (n : Int) ≤ 9223372036854775807 := by omega
/-- A text behind its length. -/
def textG (s : ByteArray) : ByteArray := ⟨(putL s.size).toArray⟩ ++ s
theorem putL_len (n : Int) : (putL n).length ≤ 10 := encF_len 10 _
theorem put_size (n : Int) : (⟨(putL n).toArray⟩ : ByteArray).size ≤ 10 := putL_len n
theorem bjoin {B B' : Nat} {a b c : World} (h : Below B a b) (k : Below B' b c) (hB : B' = b.heap.size) (hA : B = a.heap.size) : Below B a c := h.trans (k.mono (by rw [hB, hA]; have := h.size; omega))
theorem i64_bd {a : Int} (h : (Lit.int .i64 a).wf = true) : -9223372036854775808 ≤ a ∧ a ≤ 9223372036854775807 := by
  simpa [Lit.wf, IntKind.min, IntKind.max, IntKind.signed, IntKind.bits] using h
def Yes (W : World) (e : Ending) (w' : World) : Prop := e = .returned (.bool true) ∧ Below W.heap.size W w'
theorem putL_form {n : Int} (h0 : -9223372036854775808 ≤ n) (h1 : n ≤ 9223372036854775807) : ∃ cs b, putL n = cs ++ [b] ∧ Going cs ∧ b.toNat < 128 ∧ cs.length < 10 ∧ short b.toNat (cs.length + 1) = true ∧ val (cs ++ [b]) % 18446744073709551616 = code n := by
  have hc := code_lt h0 h1
  obtain ⟨cs, b, he, hg, hb, _⟩ := encF_form 9 (code n) (lt10 hc)
  have hp : putL n = cs ++ [b] := he
  have hl := putL_len n
  rw [hp, List.length_append] at hl
  have hl2 : cs.length < 10 := by simp at hl; omega
  have hv : val (cs ++ [b]) = code n := by rw [← he]; exact val_encF 10 _ (lt10 hc)
  have hs := short_enc cs b hg hb hl2
  have hm : val (cs ++ [b]) % 18446744073709551616 = code n := by rw [hv, Nat.mod_eq_of_lt hc]
  rw [hm, decide_eq_true (show enc (code n) = cs ++ [b] from he)] at hs
  exact ⟨cs, b, hp, hg, hb, hl2, hs, hm⟩
theorem getT_put {n : Int} (h0 : -9223372036854775808 ≤ n) (h1 : n ≤ 9223372036854775807) (a : Nat) (rest : List UInt8) : getT a (putL n ++ rest) = (n, (a : Int) + ((putL n).length : Int), 0) := by
  obtain ⟨cs, b, hp, hg, hb, hl, hs, hm⟩ := putL_form h0 h1
  have h2 : (putL n ++ rest).take cs.length = cs := by rw [hp, List.append_assoc]; simp
  have h3 : (putL n ++ rest)[cs.length]? = some b := by rw [hp, List.append_assoc]; simp
  have h4 := getT_at (a := a) (i := cs.length) (l := putL n ++ rest) (by rw [h2]; exact hg) hl h3 hb
  have h5 : (putL n ++ rest).take (cs.length + 1) = cs ++ [b] := by rw [take_one h3, h2]
  rw [hs, if_pos rfl, h5, hm, dec_code] at h4
  rw [h4, hp]
  simp
  omega
theorem getG_in {s : ByteArray} {a : Nat} (h : a ≤ s.size) : getG s a = getT a (s.data.toList.drop a) := by
  unfold getG
  rw [if_neg (by omega)]
  rfl
theorem extract_list (s : ByteArray) (i j : Nat) : (s.extract i j).data.toList = (s.data.toList.drop i).take (j - i) := by simp
theorem back_facts (a0 a2 : ByteArray) (n : Int) (h0 : -9223372036854775808 ≤ n) (h1 : n ≤ 9223372036854775807) (s2 : a2.size ≤ 140737488351232) :
    getG (a0 ++ ⟨(putL n).toArray⟩ ++ textG a2 ++ ⟨#[128]⟩) a0.size = (n, (a0.size : Int) + ((⟨(putL n).toArray⟩ : ByteArray).size : Int), 0) ∧
    takeG (a0 ++ ⟨(putL n).toArray⟩ ++ textG a2 ++ ⟨#[128]⟩) ((a0.size : Int) + ((⟨(putL n).toArray⟩ : ByteArray).size : Int)) a2.size = (a2, ((a0 ++ ⟨(putL n).toArray⟩ ++ textG a2).size : Int), 0) := by
  have hl : (⟨(putL n).toArray⟩ : ByteArray).size = (putL n).length := rfl
  have hl2 : (⟨(putL a2.size).toArray⟩ : ByteArray).size = (putL a2.size).length := rfl
  have hS : (a0 ++ ⟨(putL n).toArray⟩ ++ textG a2 ++ ⟨#[128]⟩).data.toList = a0.data.toList ++ (putL n ++ (putL a2.size ++ (a2.data.toList ++ [128]))) := by
    simp [textG]
  have hz : (a0 ++ ⟨(putL n).toArray⟩ ++ textG a2 ++ ⟨#[128]⟩).size = a0.size + (putL n).length + (putL a2.size).length + a2.size + 1 := by
    rw [ByteArray.size_append, ByteArray.size_append, ByteArray.size_append, hl, textG, ByteArray.size_append, hl2]
    show a0.size + (putL n).length + ((putL a2.size).length + a2.size) + 1 = _
    omega
  have hz2 : (a0 ++ ⟨(putL n).toArray⟩ ++ textG a2).size = a0.size + (putL n).length + (putL a2.size).length + a2.size := by
    rw [ByteArray.size_append, ByteArray.size_append, hl, textG, ByteArray.size_append, hl2]
    omega
  have hla : a0.data.toList.length = a0.size := rfl
  constructor
  · rw [getG_in (by omega), hS, List.drop_left' hla, getT_put h0 h1, hl]
  · have e1 : ((a0.size : Int) + ((⟨(putL n).toArray⟩ : ByteArray).size : Int)) = ((a0.size + (putL n).length : Nat) : Int) := by rw [hl]; omega
    have hg : getG (a0 ++ ⟨(putL n).toArray⟩ ++ textG a2 ++ ⟨#[128]⟩) ((a0.size + (putL n).length : Nat) : Int) = ((a2.size : Int), ((a0.size + (putL n).length : Nat) : Int) + ((putL a2.size).length : Int), 0) := by
      rw [getG_in (by omega), hS, ← List.append_assoc, List.drop_left' (by rw [List.length_append, hla]), getT_put (by omega) (by omega)]
    rw [e1, hz2]
    unfold takeG
    rw [hg]
    simp only
    rw [if_neg (by simp), if_neg (by omega), if_neg (by rw [hz]; omega)]
    have e2 : ((a0.size + (putL n).length : Nat) : Int) + ((putL a2.size).length : Int) = ((a0.size + (putL n).length + (putL a2.size).length : Nat) : Int) := by omega
    have e3 : ((a0.size + (putL n).length + (putL a2.size).length : Nat) : Int) + (a2.size : Int) = ((a0.size + (putL n).length + (putL a2.size).length + a2.size : Nat) : Int) := by omega
    rw [e2, e3]
    refine Prod.ext ?_ rfl
    apply ByteArray.ext
    apply Array.ext'
    simp only [Int.toNat_natCast]
    rw [extract_list, hS, show a0.size + (putL n).length + (putL a2.size).length + a2.size - (a0.size + (putL n).length + (putL a2.size).length) = a2.size by omega, ← List.append_assoc, ← List.append_assoc,
      List.drop_left' (by rw [List.length_append, List.length_append, hla]), List.take_left' (show a2.data.toList.length = a2.size from rfl)]
theorem cat_le {a b : ByteArray} {m n : Nat} (h : a.size ≤ m) (k : b.size ≤ n) : (a ++ b).size ≤ m + n := by rw [ByteArray.size_append]; exact Nat.add_le_add h k
theorem add_run {P : Program} {a b : ByteArray} {m n : Nat} (h : a.size ≤ m) (k : b.size ≤ n) (hmn : m + n ≤ 9223372036854775807) (w : World) : (Op.stringOp .add a b).run P w = .ok (.string (a ++ b)) w :=
  run_string_add_sum (w := w) a b (Nat.le_trans (Nat.add_le_add h k) hmn)
/-- Bytes, the greatest first, as a number. -/
def bv (l : List UInt8) : Nat := l.foldl (fun a b => a * 256 + b.toNat) 0
theorem bv_snoc (l : List UInt8) (b : UInt8) : bv (l ++ [b]) = bv l * 256 + b.toNat := by simp [bv]
theorem foldl_lt : ∀ (l : List UInt8) (x m : Nat), x < m → l.foldl (fun a b => a * 256 + b.toNat) x < m * 256 ^ l.length
  | [], x, m, h => by simpa using h
  | b :: l, x, m, h => by
    have hb := toNat_lt b
    have := foldl_lt l (x * 256 + b.toNat) (m * 256) (by omega)
    rw [List.foldl_cons, List.length_cons, Nat.pow_succ, Nat.mul_comm (256 ^ l.length), ← Nat.mul_assoc]
    exact this
theorem bv_lt (l : List UInt8) : bv l < 256 ^ l.length := by
  have := foldl_lt l 0 1 (by decide)
  rw [Nat.one_mul] at this
  exact this
/-- What Read hands back. -/
def readG (s : ByteArray) (p w : Int) : Int × Int × Int :=
  if p < 0 ∨ (s.size : Int) < p ∨ w < 1 ∨ 8 < w then (0, 0, 1) else
  if (s.size : Int) - p < w then (0, 0, 2) else
  if 9223372036854775808 ≤ bv ((s.data.toList.drop p.toNat).take w.toNat) then (0, 0, 3) else
  (((bv ((s.data.toList.drop p.toNat).take w.toNat) : Nat) : Int), p + w, 0)
theorem take_drop_snoc {s : ByteArray} {a k : Nat} (h : a + k < s.size) : (s.data.toList.drop a).take (k + 1) = (s.data.toList.drop a).take k ++ [s[a + k]] := take_one (drop_at h)
theorem or_low {x : Nat} {b : UInt8} (h : x < 72057594037927936) : x * 256 ||| b.toNat = x * 256 + b.toNat := nat_join 8 _ _ (by omega) (toNat_lt b)
theorem bv_take_lt (l : List UInt8) {k : Nat} (h : k ≤ 7) : bv (l.take k) < 72057594037927936 := by
  have h1 := bv_lt (l.take k)
  have h2 : 256 ^ (l.take k).length ≤ 256 ^ 7 := Nat.pow_le_pow_right (by decide) (by rw [List.length_take]; omega)
  omega
theorem bv_take_lt8 (l : List UInt8) {k : Nat} (h : k ≤ 8) : bv (l.take k) < 18446744073709551616 := by
  have h1 := bv_lt (l.take k)
  have h2 : 256 ^ (l.take k).length ≤ 256 ^ 8 := Nat.pow_le_pow_right (by decide) (by rw [List.length_take]; omega)
  omega
/-- A number's bytes in a width, the greatest first. -/
def be : Nat → Nat → List UInt8
  | 0, _ => []
  | w + 1, n => be w (n / 256) ++ [UInt8.ofNat (n % 256)]
theorem be_len : ∀ (w n : Nat), (be w n).length = w
  | 0, _ => rfl
  | w + 1, n => by rw [be, List.length_append, be_len w]; rfl
theorem zero_row (w : World) (e n : Nat) : BRow (w.alloc (.cells (Array.replicate n (.int .u8 0)) e)) e w.heap.size n (List.replicate n 0) :=
  ⟨_, 0, 0, heap_alloc_new w _, .inl (Nat.le_refl _), by simp, by simp, fun j c hj => by
    have hj' : j < n := by have := (List.getElem?_eq_some_iff.1 hj).1; simpa using this
    have hc : c = 0 := by
      rw [List.getElem?_replicate, if_pos hj'] at hj
      simpa using hj.symm
    subst hc
    simp [hj']⟩
theorem make_bytes {P : Program} (t e : TypeId) (i : TypeInfo) (ht : P.underlying t = some (.slice e)) (hi : P.info? e = some i) (hz : i.zero = some (.int .u8 0)) (hs : i.size = 1) (hb : i.bytes = 1)
    (kl kc : IntKind) (n : Nat) (hn : n ≤ 281474976710656) (w : World) :
    ∃ w1, (Instr.makeSlice t (.int kl (n : Int)) (.int kc (n : Int))).run P w = .ok (.slice (some ⟨w.heap.size, 0, none⟩) n n) w1 ∧ BRow w1 e w.heap.size n (List.replicate n 0) ∧ Below w.heap.size w w1 ∧ w1.heap.size = w.heap.size + 1 := by
  have hr := run_make (P := P) w t e i (.int .u8 0) ht hi hz kl kc n n (by omega) (by omega) (by rw [hb]; omega) (by omega)
  simp only [Int.toNat_natCast] at hr
  refine ⟨_, hr, ⟨_, 0, 0, heap_alloc_new w _, .inl (Nat.le_refl _), ?_, by simp, fun j c hj => ?_⟩, (Below.refl _ _).alloc (Nat.le_refl _) _, by simp⟩
  · simp [madeCells, hs]
  · have hj' : j < n := by have := (List.getElem?_eq_some_iff.1 hj).1; simpa using this
    have hc : c = 0 := by
      rw [List.getElem?_replicate, if_pos hj'] at hj
      simpa using hj.symm
    subst hc
    simp [madeCells, hs, Value.cells, hj', Nat.mod_one]
/-- Half way: i bytes are still to be laid. -/
structure FixAt (W : World) (e cap width n0 i m : Nat) (L : List UInt8) (wr : World) : Prop where
  row : BRow wr e W.heap.size cap L
  bel : Below W.heap.size W wr
  len : L.length = cap
  all : be i m ++ (L.take width).drop i = be width n0
  quo : m = n0 / 256 ^ (width - i)
theorem FixAt.step {W wr : World} {e cap width n0 i m : Nat} {L : List UInt8} (h : FixAt W e cap width n0 (i + 1) m L wr) (hi : i < width) (hw : width ≤ cap) :
    FixAt W e cap width n0 i (m / 256) (L.set i (UInt8.ofNat (m % 256))) (wr.setCell ⟨W.heap.size, i, none⟩ (.int .u8 ((m % 256 : Nat) : Int))) := by
  have hl := h.len
  refine ⟨h.row.set (by omega) (Nat.mod_lt _ (by decide)), h.bel.setCell (Nat.le_refl _) _, by simpa using hl, ?_, ?_⟩
  · rw [← h.all, be, List.append_assoc]
    congr 1
    have h1 : i < (L.set i (UInt8.ofNat (m % 256))).length := by simp; omega
    have h2 : i < ((L.set i (UInt8.ofNat (m % 256))).take width).length := by rw [List.length_take]; omega
    rw [List.drop_eq_getElem_cons h2]
    have h3 : ((L.set i (UInt8.ofNat (m % 256))).take width)[i] = UInt8.ofNat (m % 256) := by
      rw [List.getElem_take, List.getElem_set_self]
    rw [h3, List.take_set, List.drop_set_of_lt (by omega)]
    rfl
  · rw [h.quo, Nat.div_div_eq_div_mul, show width - i = (width - (i + 1)) + 1 by omega, Nat.pow_succ]
/-- What Fixed hands back. -/
def fixG (n w : Int) : ByteArray × Int := if w < 1 ∨ 8 < w ∨ n < 0 ∨ n.toNat / 256 ^ w.toNat ≠ 0 then (⟨#[]⟩, 1) else (⟨(be w.toNat n.toNat).toArray⟩, 0)
theorem encF_mono : ∀ (f u v : Nat), u ≤ v → (encF f u).length ≤ (encF f v).length
  | 0, _, _, _ => by simp [encF]
  | f + 1, u, v, h => by
    rw [encF, encF]
    by_cases hu : u < 128
    · rw [if_pos hu]
      split
      · exact Nat.le_refl _
      · simp
    · rw [if_neg hu, if_neg (by omega), List.length_cons, List.length_cons]
      exact Nat.succ_le_succ (encF_mono f (u / 128) (v / 128) (Nat.div_le_div_right h))
theorem putL_mono {n m : Int} (h0 : 0 ≤ n) (h : n ≤ m) : (putL n).length ≤ (putL m).length := by
  unfold putL enc code
  rw [if_neg (by omega), if_neg (by omega)]
  exact encF_mono 10 _ _ (by omega)
theorem putL_inj {n m : Int} (h0 : -9223372036854775808 ≤ n) (h1 : n ≤ 9223372036854775807) (h2 : -9223372036854775808 ≤ m) (h3 : m ≤ 9223372036854775807) (h : putL n = putL m) : n = m := by
  have e1 := val_enc (code_lt h0 h1)
  have e2 := val_enc (code_lt h2 h3)
  have h' : enc (code n) = enc (code m) := h
  rw [h', e2] at e1
  rw [← dec_code n, ← dec_code m, e1]
theorem putL_pos {n : Int} (h0 : -9223372036854775808 ≤ n) (h1 : n ≤ 9223372036854775807) : 0 < (putL n).length := by
  obtain ⟨cs, b, h, _⟩ := putL_form h0 h1
  rw [h, List.length_append]
  simp
theorem cut_get {n : Int} (h0 : -9223372036854775808 ≤ n) (h1 : n ≤ 9223372036854775807) {k : Nat} (hk : k < (putL n).length) : getG ((⟨(putL n).toArray⟩ : ByteArray).extract 0 k) 0 = (0, 0, 2) := by
  obtain ⟨cs, b, h, hg, _, hl, _⟩ := putL_form h0 h1
  have hl2 : (putL n).length = cs.length + 1 := by rw [h, List.length_append]; rfl
  have hd : ((⟨(putL n).toArray⟩ : ByteArray).extract 0 k).data.toList = cs.take k := by
    rw [extract_list, Nat.sub_zero, List.drop_zero]
    show (putL n).take k = _
    rw [h, List.take_append_of_le_length (by omega)]
  have h2 := getG_in (s := (⟨(putL n).toArray⟩ : ByteArray).extract 0 k) (a := 0) (Nat.zero_le _)
  rw [hd, List.drop_zero] at h2
  have h3 : getT 0 (cs.take k) = (0, 0, 2) := getT_cut (fun x hx => hg x (List.mem_of_mem_take hx)) (by rw [List.length_take]; omega)
  rw [h3] at h2
  exact h2
theorem str_eq_iff (l m : List UInt8) : ((⟨l.toArray⟩ : ByteArray).toList == (⟨m.toArray⟩ : ByteArray).toList) = decide (l = m) := by
  rw [ByteArray.toList_mk, ByteArray.toList_mk, Bool.eq_iff_iff]
  simp
end Go.Proofs.YtjnphajkoopkgaaGreatDoor
