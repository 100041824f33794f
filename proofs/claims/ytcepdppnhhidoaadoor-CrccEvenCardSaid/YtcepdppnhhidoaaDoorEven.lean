/- The law CrccEven walks to true for every three texts. Condition: the package's table reads as its text lays it. -/
import Derived.Test.YtcepdppnhhidoaaDoorTurn
import Derived.OwnWalk
import Derived.RegionTactic
import Derived.WalkLawsBesides
import Derived.Deep.QuietTactic
import Derived.BigQuiet
namespace Go.Proofs.YtcepdppnhhidoaaDoor
open Go.RowKit
set_option linter.unusedVariables false
theorem num_three : ∀ (l a b c : List UInt8), a.length = l.length → b.length = l.length → c.length = l.length → (∀ (j : Nat) (x y z : UInt8), a[j]? = some x → b[j]? = some y → c[j]? = some z → l[j]? = some (UInt8.ofNat (x.toNat ^^^ y.toNat ^^^ z.toNat))) →
    num l = num a ^^^ num b ^^^ num c
  | [], a, b, c, ha, hb, hc, _ => by
    have h1 := List.eq_nil_of_length_eq_zero ha
    have h2 := List.eq_nil_of_length_eq_zero hb
    have h3 := List.eq_nil_of_length_eq_zero hc
    subst h1 h2 h3
    rfl
  | d :: l, a, b, c, ha, hb, hc, h => by
    match a, b, c, ha, hb, hc, h with
    | x :: a, y :: b, z :: c, ha, hb, hc, h =>
      have h0 := h 0 x y z rfl rfl rfl
      have hd : d = UInt8.ofNat (x.toNat ^^^ y.toNat ^^^ z.toNat) := by simpa using h0
      have ih := num_three l a b c (by simpa using ha) (by simpa using hb) (by simpa using hc) (fun j x y z hx hy hz => by
        have h1 := h (j + 1) x y z (by simpa using hx) (by simpa using hy) (by simpa using hz)
        simpa using h1)
      have hlt : x.toNat ^^^ y.toNat ^^^ z.toNat < 256 := Nat.xor_lt_two_pow (n := 8) (Nat.xor_lt_two_pow (n := 8) (byte_lt x) (byte_lt y)) (byte_lt z)
      rw [num, num, num, num, ih, hd, UInt8.toNat_ofNat_of_lt' (by simpa using hlt), ← join256 _ _ hlt, ← join256 _ _ (byte_lt x), ← join256 _ _ (byte_lt y), ← join256 _ _ (byte_lt z), mul_xor, mul_xor]
      simp only [Nat.xor_assoc]
      congr 1
      rw [xor_swap (2 ^ 8 * num a) y.toNat, xor_swap (2 ^ 8 * num b) z.toNat, xor_swap (2 ^ 8 * num a) z.toNat]
theorem ext_three (l a b c : List UInt8) (ha : a.length = l.length) (hb : b.length = l.length) (hc : c.length = l.length) (h : num l = num a ^^^ num b ^^^ num c) : ext 0 l = ext 0 a ^^^ ext 0 b ^^^ ext 0 c := by
  have e : ∀ m : List UInt8, ext 0 m = (4294967295 ^^^ lfn (8 * m.length) 4294967295) ^^^ lfn (8 * m.length) (num m) := fun m => by
    rw [ext, crc_num, Nat.xor_zero, lfn_xor, Nat.xor_assoc]
  rw [e l, e a, e b, e c, ha, hb, hc, h, lfn_xor, lfn_xor]
  generalize 4294967295 ^^^ lfn (8 * l.length) 4294967295 = m
  simp only [Nat.xor_assoc]
  congr 1
  rw [xor_swap m, xor_swap m, ← Nat.xor_assoc m m, Nat.xor_self, Nat.zero_xor]
/-- A new row of n bytes of 0. -/
theorem make_bytes {P : Program} (t e : TypeId) (i : TypeInfo) (ht : P.underlying t = some (.slice e)) (hi : P.info? e = some i) (hz : i.zero = some (.int .u8 0)) (hs : i.size = 1) (hb : i.bytes = 1)
    (kl kc : IntKind) (n : Nat) (hn : n ≤ 281474976710656) (w : World) :
    ∃ w1, (Instr.makeSlice t (.int kl (n : Int)) (.int kc (n : Int))).run P w = .ok (.slice (some ⟨w.heap.size, 0, none⟩) n n) w1 ∧ BRow w1 e w.heap.size n (List.replicate n 0) ∧ Below w.heap.size w w1 ∧ w1.heap.size = w.heap.size + 1 := by
  have hr := run_make (P := P) w t e i (.int .u8 0) ht hi hz kl kc n n (by omega) (by omega) (by rw [hb]; omega) (by omega)
  simp only [Int.toNat_natCast] at hr
  refine ⟨_, hr, ⟨_, 0, 0, heap_alloc_new w _, .inl (Nat.le_refl _), ?_, by simp, fun j c hj => ?_⟩, (Below.refl _ _).alloc (Nat.le_refl _) _, by simp⟩
  · simp [madeCells, hs]
  · have hj' : j < n := by have := (List.getElem?_eq_some_iff.1 hj).1; simpa using this
    have hc : c = 0 := by
      rw [List.getElem?_replicate, if_pos hj'] at hj
      simpa using hj.symm
    subst hc
    simp [madeCells, hs, Value.cells, hj', Nat.mod_one]
theorem below_drewN {B : Nat} {a w : World} (h : Below B a w) (n : Nat) : Below B a (w.drewN n) := ⟨h.os, h.tape, h.output, h.size, h.block⟩
structure Three (W : World) (a b c : List UInt8) (n k : Nat) (l : List UInt8) (wr : World) : Prop where
  len : l.length = n
  val : ∀ j, j < k → ∀ (x y z : UInt8), a[j]? = some x → b[j]? = some y → c[j]? = some z → l[j]? = some (UInt8.ofNat (x.toNat ^^^ y.toNat ^^^ z.toNat))
  row : BRow wr 5 W.heap.size n l
  bel : Below W.heap.size W wr
theorem Three.step {W wr : World} {a b c l : List UInt8} {n k : Nat} (h : Three W a b c n k l wr) (hk : k < n) {x y z : UInt8} (hx : a[k]? = some x) (hy : b[k]? = some y) (hz : c[k]? = some z) :
    Three W a b c n (k + 1) (l.set k (UInt8.ofNat (x.toNat ^^^ y.toNat ^^^ z.toNat))) ((wr.setCell ⟨W.heap.size, k, none⟩ (.int .u8 ((x.toNat ^^^ y.toNat ^^^ z.toNat : Nat) : Int))).drew) := by
  have hlt : x.toNat ^^^ y.toNat ^^^ z.toNat < 256 := Nat.xor_lt_two_pow (n := 8) (Nat.xor_lt_two_pow (n := 8) (byte_lt x) (byte_lt y)) (byte_lt z)
  refine ⟨by simpa using h.len, fun j hj x' y' z' hx' hy' hz' => ?_, h.row.set (by rw [h.len]; exact hk) hlt, (h.bel.setCell (Nat.le_refl _) _).drew⟩
  by_cases he : k = j
  · subst he
    rw [hx] at hx'
    rw [hy] at hy'
    rw [hz] at hz'
    cases hx'
    cases hy'
    cases hz'
    exact List.getElem?_set_self (by rw [h.len]; exact hk)
  · rw [List.getElem?_set_ne he]
    exact h.val j (by omega) x' y' z' hx' hy' hz'
theorem info5' : (Tryd.prog.info? 5).map (fun i => (i.zero, i.size, i.bytes)) = some (some (.int .u8 0), 1, 1) := by kernel_rfl
set_option maxHeartbeats 1000000 in
theorem even_go (a0 a1 a2 : ByteArray) (n : Nat) (W : World) (hn : n ≤ 140737488351232) (h0 : n ≤ a0.size) (h1 : n ≤ a1.size) (h2 : n ≤ a2.size) (s0 : a0.size ≤ 140737488351232) (s1 : a1.size ≤ 140737488351232) (s2 : a2.size ≤ 140737488351232)
    (hcase : (a1.size < a0.size ∧ a1.size ≤ a2.size ∧ a1.size = n) ∨ (a1.size < a0.size ∧ ¬ a1.size ≤ a2.size ∧ a2.size = n) ∨ (¬ a1.size < a0.size ∧ a0.size ≤ a2.size ∧ a0.size = n) ∨ (¬ a1.size < a0.size ∧ ¬ a0.size ≤ a2.size ∧ a2.size = n)) (hT : Tab W) :
    Calls Tryd.prog 7 #[.string a0, .string a1, .string a2] W fun e w' => e = .returned (.bool true) ∧ Below W.heap.size W w' := by
  obtain ⟨i0, hi, hz0, hz1, hz2⟩ := info_parts info5'
  obtain ⟨W1, hmk, hB, hbel, hsz1⟩ := make_bytes (P := Tryd.prog) 28 5 i0 Tryd.underlying28 hi hz0 hz1 hz2 .i64 .i64 n (by omega) W
  have hpos := hT.pos
  have H0 : Three W a0.data.toList a1.data.toList a2.data.toList n 0 (List.replicate n 0) W1 := ⟨by simp, fun j hj => by omega, hB, hbel⟩
  rcases hcase with ⟨g1, g2, g3⟩ | ⟨g1, g2, g3⟩ | ⟨g1, g2, g3⟩ | ⟨g1, g2, g3⟩
  all_goals
    go_enter Tryd.func7, Tryd.ntmps7
    go_wp2
    go_loopw [9] (fun i wr => ∃ (k : Nat) (l : List UInt8), k ≤ n ∧ i = .int .i64 k ∧ Three W a0.data.toList a1.data.toList a2.data.toList n k l wr) (fun i _ => n - (intOf i).toNat)
    case atStart => exact ⟨0, _, by omega, rfl, H0⟩
    case round =>
      obtain ⟨k, l, hk, rfl, hR⟩ := hrel
      by_cases hkn : k < n
      · have l0 : k < a0.size := by omega
        have l1 : k < a1.size := by omega
        have l2 : k < a2.size := by omega
        have e1 := xor8_cast (byte_lt a0[k]) (byte_lt a1[k])
        have e2 := xor8_cast (a := a0[k].toNat ^^^ a1[k].toNat) (Nat.xor_lt_two_pow (n := 8) (byte_lt a0[k]) (byte_lt a1[k])) (byte_lt a2[k])
        have HR := Lib.hid (hR.step hkn (x := a0[k]) (y := a1[k]) (z := a2[k]) (List.getElem?_eq_getElem (by simpa using l0)) (List.getElem?_eq_getElem (by simpa using l1)) (List.getElem?_eq_getElem (by simpa using l2)))
        have hcell := hR.row.cell (j := k) (List.getElem?_eq_getElem (by rw [hR.len]; exact hkn))
        have hfr := hR.row.frozen hkn
        go_wp2
        go_region
        all_goals go_wp2
        go_roundw
        case rel => exact ⟨k + 1, _, by omega, by go_num, HR.out⟩
        case measure => simp [intOf]; omega
      · have hbW := hR.bel
        have htext : ∀ m, (convert 28 9 (.slice (some ⟨W.heap.size, 0, none⟩) n n)).run Tryd.prog (wr.drewN m) = .ok (.string ⟨l.toArray⟩) (wr.drewN m) := fun m => (hR.row.drewN m).text (P := Tryd.prog) 28 9 n n Tryd.underlying28 Tryd.underlying5 Tryd.underlying9 hR.len.symm
        have hTr : Tab wr := hT.later hR.bel hpos
        have hx : ∀ a : ByteArray, n ≤ a.size → (a.extract 0 n).size ≤ maxLen ∧ (a.extract 0 n).data.toList = a.data.toList.take n := fun a ha => by
          refine ⟨by rw [ByteArray.size_extract]; unfold maxLen; omega, by simp⟩
        have hsl : (⟨l.toArray⟩ : ByteArray).size ≤ maxLen := by
          have h1 : (⟨l.toArray⟩ : ByteArray).size = l.length := rfl
          rw [h1, hR.len]; unfold maxLen; omega
        have hl0 : ∀ a : ByteArray, n ≤ a.size → (a.data.toList.take n).length = l.length := fun a ha => by
          have h1 : a.data.toList.length = a.size := rfl
          rw [List.length_take, h1, hR.len]; omega
        have hnum := num_three l (a0.data.toList.take n) (a1.data.toList.take n) (a2.data.toList.take n) (hl0 a0 h0) (hl0 a1 h1) (hl0 a2 h2) (fun j x y z hx hy hz => by
          have hj : j < n := by
            have := (List.getElem?_eq_some_iff.1 hx).1
            rw [List.length_take] at this
            omega
          rw [List.getElem?_take, if_pos hj] at hx hy hz
          exact hR.val j (by omega) x y z hx hy hz)
        have hext := ext_three l _ _ _ (hl0 a0 h0) (hl0 a1 h1) (hl0 a2 h2) hnum
        have c0 : ∀ m, Calls Tryd.prog 9 #[.string ⟨l.toArray⟩] (wr.drewN m) _ := fun m => (sum_c _ (wr.drewN m) hsl hTr).mono fun _ _ ⟨a, b⟩ => (⟨a, b.symm⟩ : _ ∧ _ = wr.drewN m)
        have hel : (⟨l.toArray⟩ : ByteArray).data.toList = l := by simp
        have c1 : ∀ m, Calls Tryd.prog 9 #[.string (a0.extract 0 n)] (wr.drewN m) _ := fun m => (sum_c _ (wr.drewN m) (hx a0 h0).1 hTr).mono fun _ _ ⟨a, b⟩ => (⟨a, b.symm⟩ : _ ∧ _ = wr.drewN m)
        have c2 : ∀ m, Calls Tryd.prog 9 #[.string (a1.extract 0 n)] (wr.drewN m) _ := fun m => (sum_c _ (wr.drewN m) (hx a1 h1).1 hTr).mono fun _ _ ⟨a, b⟩ => (⟨a, b.symm⟩ : _ ∧ _ = wr.drewN m)
        have c3 : ∀ m, Calls Tryd.prog 9 #[.string (a2.extract 0 n)] (wr.drewN m) _ := fun m => (sum_c _ (wr.drewN m) (hx a2 h2).1 hTr).mono fun _ _ ⟨a, b⟩ => (⟨a, b.symm⟩ : _ ∧ _ = wr.drewN m)
        have c4 : ∀ m, Calls Tryd.prog 13 #[] (wr.drewN m) _ := fun m => (live_c (wr.drewN m) hTr).mono fun _ _ ⟨a, b⟩ => (⟨a, b.symm⟩ : _ ∧ _ = wr.drewN m)
        rw [hel, hext] at c0
        rw [(hx a0 h0).2] at c1
        rw [(hx a1 h1).2] at c2
        rw [(hx a2 h2).2] at c3
        have y1 : ext 0 (a0.data.toList.take n) < 4294967296 := ext_lt (by decide) _
        have y2 : ext 0 (a1.data.toList.take n) < 4294967296 := ext_lt (by decide) _
        have y3 : ext 0 (a2.data.toList.take n) < 4294967296 := ext_lt (by decide) _
        generalize ext 0 (a0.data.toList.take n) = x1 at *
        generalize ext 0 (a1.data.toList.take n) = x2 at *
        generalize ext 0 (a2.data.toList.take n) = x3 at *
        have e1 : bits .xor .u32 (x1 : Int) (x2 : Int) = ((x1 ^^^ x2 : Nat) : Int) := xor_cast y1 y2
        have e2 : bits .xor .u32 ((x1 ^^^ x2 : Nat) : Int) (x3 : Int) = ((x1 ^^^ x2 ^^^ x3 : Nat) : Int) := xor_cast (xor_lt32 y1 y2) y3
        generalize x1 ^^^ x2 ^^^ x3 = x5 at *
        generalize x1 ^^^ x2 = x4 at *
        clear hext hnum hl0 hx hsl hel hR H0
        generalize (⟨l.toArray⟩ : ByteArray) = r at *
        go_wp2
        go_quiet ((first | (go_at_call 9; first | exact Calls.quiet_of_same (c0 _) | exact Calls.quiet_of_same (c1 _) | exact Calls.quiet_of_same (c2 _) | exact Calls.quiet_of_same (c3 _)) | (go_at_call 13; exact Calls.quiet_of_same (c4 _))))
        go_wp2
        go_ret
        exact ⟨rfl, below_drewN hbW nq⟩
theorem crccEven_walk (a0 a1 a2 : ByteArray) (W : World) (s0 : a0.size ≤ 140737488351232) (s1 : a1.size ≤ 140737488351232) (s2 : a2.size ≤ 140737488351232) (hT : Tab W) :
    Calls Tryd.prog 7 #[.string a0, .string a1, .string a2] W fun e w' => e = .returned (.bool true) ∧ Below W.heap.size W w' := by
  by_cases h1 : a1.size < a0.size
  · by_cases h2 : a1.size ≤ a2.size
    · exact even_go a0 a1 a2 a1.size W (by omega) (by omega) (by omega) (by omega) s0 s1 s2 (.inl ⟨h1, h2, rfl⟩) hT
    · exact even_go a0 a1 a2 a2.size W (by omega) (by omega) (by omega) (by omega) s0 s1 s2 (.inr (.inl ⟨h1, h2, rfl⟩)) hT
  · by_cases h2 : a0.size ≤ a2.size
    · exact even_go a0 a1 a2 a0.size W (by omega) (by omega) (by omega) (by omega) s0 s1 s2 (.inr (.inr (.inl ⟨h1, h2, rfl⟩))) hT
    · exact even_go a0 a1 a2 a2.size W (by omega) (by omega) (by omega) (by omega) s0 s1 s2 (.inr (.inr (.inr ⟨h1, h2, rfl⟩))) hT
end Go.Proofs.YtcepdppnhhidoaaDoor
