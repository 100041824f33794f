/- Turned bits of a batch's bytes: what Decode says of them. Plain words. -/
import Derived.Test.YtammmdoabjgjfaaDoorBatLaws
namespace Go.Proofs.YtammmdoabjgjfaaDoor
open Go.RowKit
set_option linter.unusedVariables false
theorem bv_be : ∀ (w n : Nat), n < 256 ^ w → bv (be w n) = n
  | 0, n, h => by simp at h; subst h; rfl
  | w + 1, n, h => by
    rw [be, bv_snoc, bv_be w (n / 256) (by rw [Nat.pow_succ] at h; omega), UInt8.toNat_ofNat_of_lt' (Nat.mod_lt _ (by decide))]
    show n / 256 * 256 + n % 256 = n
    omega
theorem foldl_inj : ∀ (l m : List UInt8) (x y : Nat), l.length = m.length → l.foldl (fun a b => a * 256 + b.toNat) x = m.foldl (fun a b => a * 256 + b.toNat) y → x = y ∧ l = m
  | [], [], x, y, _, h => ⟨h, rfl⟩
  | [], _ :: _, _, _, h, _ => by simp at h
  | _ :: _, [], _, _, h, _ => by simp at h
  | b :: l, c :: m, x, y, hl, h => by
    obtain ⟨h1, h2⟩ := foldl_inj l m (x * 256 + b.toNat) (y * 256 + c.toNat) (by simpa using hl) h
    have hb := b.toNat_lt
    have hc := c.toNat_lt
    have e : b.toNat = c.toNat := by omega
    exact ⟨by omega, by rw [h2, UInt8.toNat_inj.1 e]⟩
theorem bv_inj {l m : List UInt8} (hl : l.length = m.length) (h : bv l = bv m) : l = m := (foldl_inj l m 0 0 hl h).2
/-- A text of a length, four bytes and a body. -/
theorem bodyG_of (n : Nat) (c4 r : List UInt8) (hc : c4.length = 4) (hr : r.length = n) (h : n ≤ 60000) :
    (bodyG ⟨(be 4 n ++ c4 ++ r).toArray⟩ 0).2.2 = if CR.ext 0 r ≠ bv c4 then 4 else 0 := by
  have hz : (⟨(be 4 n ++ c4 ++ r).toArray⟩ : ByteArray).size = 8 + n := by
    show (be 4 n ++ c4 ++ r).toArray.size = _
    simp [be_len, hc, hr]
    omega
  have hd : (⟨(be 4 n ++ c4 ++ r).toArray⟩ : ByteArray).data.toList = be 4 n ++ c4 ++ r := by simp
  have e0 : rd4 ⟨(be 4 n ++ c4 ++ r).toArray⟩ 0 = n := by
    unfold rd4
    rw [hd, List.drop_zero, List.append_assoc, List.take_left' (be_len 4 n), bv_be 4 n (by omega)]
  have e4 : rd4 ⟨(be 4 n ++ c4 ++ r).toArray⟩ (0 + 4) = bv c4 := by
    unfold rd4
    rw [hd, List.append_assoc, List.drop_left' (be_len 4 n), List.take_left' hc]
  have eb : sumN ((⟨(be 4 n ++ c4 ++ r).toArray⟩ : ByteArray).extract (0 + 8) (0 + 8 + n)) = CR.ext 0 r := by
    unfold sumN
    congr 1
    rw [ByteArray.data_extract, Array.toList_extract, hd, List.extract_eq_take_drop, List.drop_left' (by simp [be_len, hc]), List.take_of_length_le (by omega)]
  unfold bodyG
  rw [if_neg (by omega), if_neg (by rw [hz]; show ¬ 8 + n < 0 + 8; omega), show (0 : Int).toNat = 0 from rfl, e0, if_neg (by omega), if_neg (by omega), eb, e4]
  split <;> rfl
theorem decG_four (s : ByteArray) (p : Int) : (decG s p).2.2.2 = 4 ↔ (bodyG s p).2.2 = 4 := by
  unfold decG
  split
  · exact Iff.rfl
  · rename_i h
    have h0 : (bodyG s p).2.2 = 0 := by simpa using h
    rw [h0]
    split <;> simp
theorem wrapB_list (s : ByteArray) : (wrapB s).data.toList = be 4 s.size ++ be 4 (sumN s) ++ s.data.toList := by
  unfold wrapB w4
  simp
theorem nat_u32 {a : Int} (h : (Lit.int .u32 a).wf = true) : ∃ n : Nat, a = n ∧ n < 4294967296 := by
  have hb : 0 ≤ a ∧ a ≤ 4294967295 := by simpa [Lit.wf, IntKind.min, IntKind.max, IntKind.signed, IntKind.bits] using h
  exact ⟨a.toNat, by omega, by omega⟩
def tb (n k : Nat) : Bool := decide (n % 2 ^ k ≠ 0)
theorem tb_zero (n : Nat) : tb n 0 = false := by simp [tb, Nat.mod_one]
theorem mod_succ_bits (n k j : Nat) : n % 2 ^ (k + j) = n % 2 ^ k + 2 ^ k * (n / 2 ^ k % 2 ^ j) := by rw [Nat.pow_add, Nat.mod_mul]
theorem mod_xor_bits (n k j : Nat) : n % 2 ^ (k + j) = (n % 2 ^ k) ^^^ 2 ^ k * (n / 2 ^ k % 2 ^ j) := by
  have h := CR.split_pow k (n % 2 ^ (k + j))
  have hp : 0 < 2 ^ k := Nat.two_pow_pos k
  have hlt := Nat.mod_lt n hp
  have e1 : n % 2 ^ (k + j) % 2 ^ k = n % 2 ^ k := by rw [mod_succ_bits, Nat.add_mul_mod_self_left, Nat.mod_mod]
  have e2 : n % 2 ^ (k + j) / 2 ^ k = n / 2 ^ k % 2 ^ j := by
    rw [mod_succ_bits, Nat.add_mul_div_left _ _ hp, Nat.div_eq_of_lt hlt, Nat.zero_add]
  rw [e1, e2] at h
  exact h.symm
theorem tb_yes {n k : Nat} (h : n / 2 ^ k % 2 = 1) : tb n (k + 1) = true := by
  have hp : 0 < 2 ^ k := Nat.two_pow_pos k
  simp only [tb, decide_eq_true_eq]
  rw [mod_succ_bits, Nat.pow_one, h]
  omega
theorem tb_no {n k : Nat} (h : n / 2 ^ k % 2 ≠ 1) : tb n (k + 1) = tb n k := by
  have h0 : n / 2 ^ k % 2 = 0 := by omega
  simp only [tb]
  rw [mod_succ_bits, Nat.pow_one, h0, Nat.mul_zero, Nat.add_zero]
structure TurnT (W : World) (g : Nat) (hd s : List UInt8) (cap F n k : Nat) (r : List UInt8) (wr : World) : Prop where
  len : r.length = s.length
  val : CR.num r = CR.num s ^^^ 2 ^ F * (n % 2 ^ k)
  row : BRow wr 5 g cap (hd ++ r)
  bel : Below W.heap.size W wr
  hi : W.heap.size ≤ g
  h8 : hd.length = 8
section
variable {W wr : World} {g : Nat} {hd s r : List UInt8} {cap F n k : Nat}
theorem TurnT.no (h : TurnT W g hd s cap F n k r wr) (hb : n / 2 ^ k % 2 ≠ 1) : TurnT W g hd s cap F n (k + 1) r wr :=
  ⟨h.len, by rw [h.val, mod_succ_bits, Nat.pow_one, show n / 2 ^ k % 2 = 0 by omega, Nat.mul_zero, Nat.add_zero], h.row, h.bel, h.hi, h.h8⟩
theorem TurnT.yes (h : TurnT W g hd s cap F n k r wr) (hb : n / 2 ^ k % 2 = 1) {c : UInt8} (hc : r[(F + k) / 8]? = some c) :
    TurnT W g hd s cap F n (k + 1) (r.set ((F + k) / 8) (UInt8.ofNat (c.toNat ^^^ 2 ^ ((F + k) % 8)))) (wr.setCell ⟨g, 8 + (F + k) / 8, none⟩ (.int .u8 ((c.toNat ^^^ 2 ^ ((F + k) % 8) : Nat) : Int))) := by
  have hx : 2 ^ ((F + k) % 8) < 256 := Nat.pow_lt_pow_right (by decide) (show (F + k) % 8 < 8 by omega)
  have hj := (List.getElem?_eq_some_iff.1 hc).1
  have hrow := h.row.set (j := 8 + (F + k) / 8) (by rw [List.length_append, h.h8]; omega) (Nat.xor_lt_two_pow (n := 8) (CR.byte_lt c) hx)
  rw [List.set_append_right _ _ (by rw [h.h8]; omega), h.h8, show 8 + (F + k) / 8 - 8 = (F + k) / 8 by omega] at hrow
  refine ⟨by simpa using h.len, ?_, hrow, h.bel.setCell h.hi _, h.hi, h.h8⟩
  rw [CR.num_set r _ _ _ c hc hx rfl, h.val, mod_xor_bits, Nat.pow_one, hb, Nat.mul_one, CR.mul_xor, Nat.xor_assoc, ← Nat.pow_add, ← Nat.pow_add, show 8 * ((F + k) / 8) + (F + k) % 8 = F + k by omega]
theorem TurnT.fin (h : TurnT W g hd s cap F n k r wr) (hn : n < 4294967296) (hF : F ≤ 8 * s.length) : (tb n k = true ∧ CR.ext 0 r ≠ CR.ext 0 s) ∨ (tb n k = false ∧ CR.ext 0 r = CR.ext 0 s) := by
  by_cases h0 : n % 2 ^ k = 0
  · right
    refine ⟨by simp [tb, h0], ?_⟩
    have hv := h.val
    rw [h0, Nat.mul_zero, Nat.xor_zero] at hv
    rw [CR.num_inj _ _ h.len hv]
  · left
    refine ⟨by simp [tb, h0], CR.ext_turned s r h.len F (n % 2 ^ k) (by have := Nat.mod_le n (2 ^ k); omega) h.val h0 hF⟩
end
structure TurnU (W : World) (g : Nat) (h4 s4 r : List UInt8) (cap n k : Nat) (c : List UInt8) (wr : World) : Prop where
  len : c.length = 4
  l4 : s4.length = 4
  val : CR.num c = CR.num s4 ^^^ (n % 2 ^ (8 * k))
  row : BRow wr 5 g cap (h4 ++ c ++ r)
  bel : Below W.heap.size W wr
  hi : W.heap.size ≤ g
  h4 : h4.length = 4
section
variable {W wr : World} {g : Nat} {h4 s4 r c : List UInt8} {cap n k : Nat}
theorem TurnU.next (h : TurnU W g h4 s4 r cap n k c wr) {x : UInt8} (hx : c[k]? = some x) :
    TurnU W g h4 s4 r cap n (k + 1) (c.set k (UInt8.ofNat (x.toNat ^^^ n / 2 ^ (8 * k) % 256))) (wr.setCell ⟨g, 4 + k, none⟩ (.int .u8 ((x.toNat ^^^ n / 2 ^ (8 * k) % 256 : Nat) : Int))) := by
  have hj := (List.getElem?_eq_some_iff.1 hx).1
  have hlt : n / 2 ^ (8 * k) % 256 < 256 := Nat.mod_lt _ (by decide)
  have hl4 := h.len
  have hrow := h.row.set (j := 4 + k) (by rw [List.length_append, List.length_append, h.h4]; omega) (Nat.xor_lt_two_pow (n := 8) (CR.byte_lt x) hlt)
  rw [List.append_assoc, List.set_append_right _ _ (by rw [h.h4]; omega), h.h4, show 4 + k - 4 = k by omega, List.set_append_left _ _ hj, ← List.append_assoc] at hrow
  refine ⟨by simpa using h.len, h.l4, ?_, hrow, h.bel.setCell h.hi _, h.hi, h.h4⟩
  rw [CR.num_set c _ _ _ x hx hlt rfl, h.val, show 8 * (k + 1) = 8 * k + 8 by omega, mod_xor_bits, Nat.xor_assoc]
theorem TurnU.fin (h : TurnU W g h4 s4 r cap n 4 c wr) (hn : n < 4294967296) (h0 : n ≠ 0) : bv c ≠ bv s4 := by
  intro e
  have := bv_inj (by rw [h.len, h.l4]) e
  subst this
  have hv := h.val
  rw [Nat.mod_eq_of_lt (by simpa using hn)] at hv
  have h1 : CR.num c ^^^ CR.num c = CR.num c ^^^ (CR.num c ^^^ n) := congrArg (fun z => CR.num c ^^^ z) hv
  rw [Nat.xor_self, ← Nat.xor_assoc, Nat.xor_self, Nat.zero_xor] at h1
  exact h0 h1.symm
end
end Go.Proofs.YtammmdoabjgjfaaDoor
/- The law BatchTurned walks to true for every batch, every place and every run of bits. Condition: the table of sums. -/
namespace Go.Proofs.YtammmdoabjgjfaaDoor
open Go.RowKit
set_option linter.unusedVariables false
theorem bodyG_turn (n : Nat) (c4 r s : List UInt8) (hc : c4.length = 4) (hr : r.length = n) (h : n ≤ 60000) : ((decG ⟨(be 4 n ++ c4 ++ r).toArray⟩ 0).2.2.2 = 4 ↔ CR.ext 0 r ≠ bv c4) := by
  rw [decG_four, bodyG_of n c4 r hc hr h]
  by_cases hh : CR.ext 0 r ≠ bv c4
  · rw [if_pos hh]; exact ⟨fun _ => hh, fun _ => rfl⟩
  · rw [if_neg hh]; exact ⟨fun e => absurd e (by decide), fun e => absurd e hh⟩
set_option maxHeartbeats 16000000 in
set_option maxRecDepth 100000 in
theorem turned5_go (b : BN) (L : List RX) (A : Option Addr) (c : Nat) (a1 : Int) (m n : Nat) (W : World) (hR : RsIn W A L) (hlen : L.length ≤ 140737488351232) (hm : m ≤ 9223372036854775807) (ha : a1 = m ∨ a1 = -(m : Int) - 1) (hn : n < 4294967296) (hT : Tab W) :
    Calls Tryd.prog 7 #[.agg (bnC b (.slice A L.length c)), .int .i64 a1, .int .u32 n] W (Yes W) := by
  obtain ⟨base, span, prod, epoch, seq⟩ := b
  have hb0 : Below W.heap.size W (W.alloc (.cells #[.int .i64 base, .int .i64 span, .int .i64 prod, .int .i64 epoch, .int .i64 seq, .slice A L.length c] 24)) := (Below.refl _ _).alloc (Nat.le_refl _) _
  have hbx := Box.new W 24 #[.int .i64 base, .int .i64 span, .int .i64 prod, .int .i64 epoch, .int .i64 seq, .slice A L.length c]
  have hsm := fun w hx => rsmall_c ⟨base, span, prod, epoch, seq⟩ L A c w hx hlen
  have hen := fun w hx ht => pencode_c ⟨base, span, prod, epoch, seq⟩ A c L w hx hlen ht
  have H0 := Lib.hid (And.intro hb0 (And.intro hbx (And.intro (hR.below hb0) (hT.below hb0))))
  have HT := Lib.hid (fun w (hb : Below W.heap.size W w) => hT.below hb)
  obtain ⟨y0, y1, y2, y3, y4, y5, _, _, _, _, _, _⟩ := box_six hbx
  clear hb0 hbx hR hT
  unfold GotSm bnC at hsm
  unfold encV bnC at hen
  unfold bnC
  simp only at hsm hen
  simp only
  have hn2 : decide (-(m : Int) - 1 < 0) = true := decide_eq_true (by omega)
  have hn3 : decide ((m : Int) < 0) = false := decide_eq_false (by omega)
  have hn1 : -(m : Int) - 1 + 1 = -(m : Int) := by omega
  go_enter Tryd.func7, Tryd.ntmps7
  go_wp2_with fail
  (with_reducible refine (hsm _ H0.out.2.2.1).mono ?_)
  rintro en w1 ⟨res, rfl, hres, hb1⟩
  have H1 := Lib.hid (And.intro (H0.out.1.trans (hb1.mono H0.out.1.size)) (And.intro (H0.out.2.1.later hb1) (And.intro (H0.out.2.2.1.below hb1) (H0.out.2.2.2.below hb1))))
  clear hb1 hsm H0 y0 y1 y2 y3 y4 y5 hres
  cases res with
  | false =>
    go_wp2_with fail
    (with_reducible refine (live5_c _ H1.out.2.2.2).mono ?_)
    rintro en w2 ⟨rfl, hb2⟩
    have H2 := Lib.hid (H1.out.1.trans (hb2.mono H1.out.1.size))
    clear hb2
    go_wp2_with fail
    go_ret
    exact ⟨rfl, H2.out⟩
  | true =>
    obtain ⟨y0, y1, y2, y3, y4, y5, _, _, _, _, _, _⟩ := box_six H1.out.2.1
    by_cases hgood : batB ⟨base, span, prod, epoch, seq⟩ L = true
    · have hBs := batB_size hgood
      rw [show encB ⟨base, span, prod, epoch, seq⟩ L = wrapB (bodyB ⟨base, span, prod, epoch, seq⟩ L) by unfold encB; rw [if_pos hgood], show batE ⟨base, span, prod, epoch, seq⟩ L = 0 by unfold batE; rw [if_pos hgood]] at hen
      generalize bodyB ⟨base, span, prod, epoch, seq⟩ L = B at *
      have hSz := wrapB_size B
      have hSl := wrapB_list B
      generalize wrapB B = S at *
      clear hgood
      have HE := Lib.hid (And.intro hBs (And.intro hSz hSl))
      have hS8 : S.size ≤ 60008 := by omega
      by_cases h8 : B.size = 0
      · have h8' : (S.size : Int) ≤ 8 := by omega
        clear hSl hSz hBs
        go_wp2_with fail
        (with_reducible refine (hen _ H1.out.2.2.1 H1.out.2.2.2).mono ?_)
        rintro en w2 ⟨rfl, hb2⟩
        have H2 := Lib.hid (And.intro (H1.out.1.trans (hb2.mono H1.out.1.size)) (H1.out.2.2.2.below hb2))
        clear hb2
        go_wp2_with fail
        (with_reducible refine (live5_c _ H2.out.2).mono ?_)
        rintro en w3 ⟨rfl, hb3⟩
        have H3 := Lib.hid (H2.out.1.trans (hb3.mono H2.out.1.size))
        clear hb3
        go_wp2_with fail
        go_ret
        exact ⟨rfl, H3.out⟩
      have h8' : ¬ (S.size : Int) ≤ 8 := by omega
      by_cases hn0 : n = 0
      · subst hn0
        clear hSl hSz hBs
        go_wp2_with fail
        (with_reducible refine (hen _ H1.out.2.2.1 H1.out.2.2.2).mono ?_)
        rintro en w2 ⟨rfl, hb2⟩
        have H2 := Lib.hid (And.intro (H1.out.1.trans (hb2.mono H1.out.1.size)) (H1.out.2.2.2.below hb2))
        clear hb2
        go_wp2_with fail
        (with_reducible refine (live5_c _ H2.out.2).mono ?_)
        rintro en w3 ⟨rfl, hb3⟩
        have H3 := Lib.hid (H2.out.1.trans (hb3.mono H2.out.1.size))
        clear hb3
        go_wp2_with fail
        go_ret
        exact ⟨rfl, H3.out⟩
      have hn0' : ((n : Int) == 0) = false := by rw [beq_eq_false_iff_ne]; omega
      have hF : (m : Int) % (8 * (S.size : Int) - 64) = ((m % (8 * B.size) : Nat) : Int) := by rw [hSz]; push_cast; congr 1; omega
      have hFt : (m : Int).tmod (8 * (S.size : Int) - 64) = ((m % (8 * B.size) : Nat) : Int) := by rw [Int.tmod_eq_emod_of_nonneg (Int.natCast_nonneg m)]; exact hF
      have hq0 : ((8 * (S.size : Int) - 64) == 0) = false := by rw [beq_eq_false_iff_ne]; omega
      have hFl : m % (8 * B.size) < 8 * B.size := Nat.mod_lt _ (by omega)
      generalize m % (8 * B.size) = F at hF hFt hFl
      have hFb : F ≤ 480000 := by omega
      clear hSl hSz hBs
      go_wp2_with fail
      (with_reducible refine (hen _ H1.out.2.2.1 H1.out.2.2.2).mono ?_)
      rintro en w2 ⟨rfl, hb2⟩
      have H2 := Lib.hid (And.intro (H1.out.1.trans (hb2.mono H1.out.1.size)) (H1.out.2.2.2.below hb2))
      clear hb2 H1 y0 y1 y2 y3 y4 y5 hen
      obtain ⟨cap, W3, hrun, hB3, hbel3, hsz3⟩ := bytes_of (P := Tryd.prog) w2 9 43 5 S Tryd.underlying9 Tryd.underlying43 Tryd.underlying5
      rw [HE.out.2.2] at hB3
      have HT0 : Hid (TurnT W w2.heap.size (be 4 B.size ++ be 4 (sumN B)) B.data.toList cap F n 0 B.data.toList W3) := Lib.hid ⟨rfl, by simp [Nat.mod_one], hB3, H2.out.1.trans (hbel3.mono H2.out.1.size), H2.out.1.size, by simp [be_len]⟩
      have ht0 := Lib.hid (tb_zero n)
      clear hB3 hbel3 hsz3
      rcases ha with rfl | rfl
      all_goals
        go_wp2
        go_loopw [11, 12] (fun t i wr => ∃ (k : Nat) (l : List UInt8), k ≤ 32 ∧ i = .int .i64 k ∧ t = .bool (tb n k) ∧ TurnT W w2.heap.size (be 4 B.size ++ be 4 (sumN B)) B.data.toList cap F n k l wr) (fun _ i _ => 32 - (intOf i).toNat)
        case atStart => exact ⟨0, _, by omega, rfl, by rw [ht0.out], HT0.out⟩
        case round =>
          obtain ⟨k, l, hk, rfl, rfl, hR⟩ := hrel
          clear HT0
          have hR8 : (be 4 B.size ++ be 4 (sumN B)).length = 8 := hR.h8
          have hRl : l.length = B.size := hR.len
          by_cases hgo : k < 32 ∧ F + k < 8 * B.size
          · obtain ⟨hk32, hFk⟩ := hgo
            have hq : (n : Int) / 2 ^ k = ((n / 2 ^ k : Nat) : Int) := by simp
            have hcnd : (64 : Int) + (F : Int) + (k : Int) < 8 * (S.size : Int) := by have := HE.out.2.1; omega
            by_cases hbit : n / 2 ^ k % 2 = 1
            · have hty := Lib.hid (tb_yes hbit)
              have hb1 : (((n / 2 ^ k : Nat) : Int) % 2 == 1) = true := by simp; omega
              obtain ⟨c, hc⟩ : ∃ c, l[(F + k) / 8]? = some c := ⟨_, List.getElem?_eq_getElem (by omega)⟩
              have HY := Lib.hid (hR.yes hbit hc)
              have hj : ((64 : Int) + (F : Int) + (k : Int)) / 8 = ((8 + (F + k) / 8 : Nat) : Int) := by omega
              have hs : ((64 : Int) + (F : Int) + (k : Int)) % 8 = (((F + k) % 8 : Nat) : Int) := by omega
              have hjl : 8 + (F + k) / 8 < S.size := by have := HE.out.2.1; omega
              have hcell := hR.row.cell (j := 8 + (F + k) / 8) (c := c) (by rw [List.getElem?_append_right (by omega), hR8, show 8 + (F + k) / 8 - 8 = (F + k) / 8 by omega]; exact hc)
              have hfr := hR.row.frozen (j := 8 + (F + k) / 8) (by have := hR.row.len; rw [List.length_append] at this; omega)
              have hc8 := CR.byte_lt c
              have hx8 : 2 ^ ((F + k) % 8) < 256 := Nat.pow_lt_pow_right (by decide) (show (F + k) % 8 < 8 by omega)
              have hxor : bits .xor .u8 (c.toNat : Int) (2 ^ ((F + k) % 8) % 256) = ((c.toNat ^^^ 2 ^ ((F + k) % 8) : Nat) : Int) := by
                rw [show ((2 : Int) ^ ((F + k) % 8) % 256) = ((2 ^ ((F + k) % 8) % 256 : Nat) : Int) by simp, Nat.mod_eq_of_lt hx8]
                exact u8_xor_nat _ _ hc8 hx8
              clear hbit hc hR8 hRl hR hrun
              generalize n / 2 ^ k = q at hq hb1
              generalize 8 + (F + k) / 8 = j at *
              generalize (F + k) % 8 = sh at *
              go_wp2
              go_roundw
              case rel => exact ⟨k + 1, _, by omega, by go_num, by rw [hty.out], HY.out⟩
              case measure => simp [intOf]; omega
            · have hty := Lib.hid (tb_no hbit)
              have HY := Lib.hid (hR.no hbit)
              have hb1 : (((n / 2 ^ k : Nat) : Int) % 2 == 1) = false := by simp; omega
              clear hbit hR8 hRl hR hrun
              generalize n / 2 ^ k = q at hq hb1
              go_wp2
              go_roundw
              case rel => exact ⟨k + 1, _, by omega, by go_num, by rw [hty.out], HY.out⟩
              case measure => simp [intOf]; omega
          · have hexit : (k < 32 ∧ ¬ (64 : Int) + (F : Int) + (k : Int) < 8 * (S.size : Int)) ∨ ¬ k < 32 := by have := HE.out.2.1; omega
            have htext := hR.row.text (P := Tryd.prog) 43 9 cap S.size Tryd.underlying43 Tryd.underlying5 Tryd.underlying9 (by rw [List.length_append, hR8, hRl]; have := HE.out.2.1; omega)
            have hend := hR.fin hn (show F ≤ 8 * B.size by omega)
            have hTr : Tab wr := HT.out wr hR.bel
            have hdec := bodyG_turn B.size (be 4 (sumN B)) l B.data.toList (be_len _ _) hRl HE.out.1
            rw [bv_be 4 (sumN B) (by have := sumN_lt B; omega)] at hdec
            have cd := pdecode5_c ⟨(be 4 B.size ++ be 4 (sumN B) ++ l).toArray⟩ 0 wr (by show (be 4 B.size ++ be 4 (sumN B) ++ l).toArray.size ≤ _; rw [List.size_toArray, List.length_append, hR8, hRl]; have := HE.out.1; omega) hTr
            have HW := Lib.hid hR.bel
            clear hR8 hRl hR hTr hgo
            generalize (⟨(be 4 B.size ++ be 4 (sumN B) ++ l).toArray⟩ : ByteArray) = T at *
            generalize (decG T 0).1 = b1 at cd
            generalize (decG T 0).2.1 = R1 at cd
            generalize (decG T 0).2.2.1 = q1 at cd
            generalize (decG T 0).2.2.2 = e1 at cd hdec
            obtain ⟨p0, p1, p2, p3, p4⟩ := b1
            unfold GotBt bnC at cd
            simp only at cd
            have HFE : Hid ((tb n k = true ∧ e1 = 4) ∨ (tb n k = false ∧ e1 ≠ 4)) := Lib.hid (by
              rcases hend with ⟨h1, h2⟩ | ⟨h1, h2⟩
              · exact .inl ⟨h1, hdec.2 h2⟩
              · exact .inr ⟨h1, fun h => hdec.1 h h2⟩)
            clear hend hdec
            rcases hexit with ⟨h1, h2⟩ | h1
            all_goals
              go_wp2_with fail
              (with_reducible refine cd.mono ?_)
              rintro en w5 ⟨K, A5, c5, hK, rfl, hrow5, hb5⟩
              obtain ⟨w6, hw6⟩ : ∃ w, w5.alloc (.cells #[.int .i64 p0, .int .i64 p1, .int .i64 p2, .int .i64 p3, .int .i64 p4, .slice A5 K.length c5] 24) = w := ⟨_, rfl⟩
              have B6 : Below W.heap.size W w6 := by rw [← hw6]; exact (HW.out.trans (hb5.mono HW.out.size)).alloc (Nat.le_trans HW.out.size hb5.size) _
              obtain ⟨cap2, W7, hrun2, hB7, hbel7, hsz7⟩ := bytes_of (P := Tryd.prog) w6 9 43 5 S Tryd.underlying9 Tryd.underlying43 Tryd.underlying5
              rw [HE.out.2.2] at hB7
              have HU0 : Hid (TurnU W w6.heap.size (be 4 B.size) (be 4 (sumN B)) B.data.toList cap2 n 0 (be 4 (sumN B)) W7) := Lib.hid ⟨be_len _ _, be_len _ _, by simp [Nat.mod_one], hB7, B6.trans (hbel7.mono B6.size), B6.size, be_len _ _⟩
              clear hB7 hbel7 hsz7 B6 hrow5 hb5 hK cd htext
              go_wp2
              go_loopw [17] (fun i wr => ∃ (k : Nat) (c : List UInt8), k ≤ 4 ∧ i = .int .i64 k ∧ TurnU W w6.heap.size (be 4 B.size) (be 4 (sumN B)) B.data.toList cap2 n k c wr) (fun i _ => 4 - (intOf i).toNat)
              case atStart => exact ⟨0, _, by omega, rfl, HU0.out⟩
              case round =>
                obtain ⟨k2, c2, hk2, rfl, hU⟩ := hrel
                clear HU0 hrun hrun2
                have hU4 : (be 4 B.size).length = 4 := hU.h4
                have hc4 : c2.length = 4 := hU.len
                by_cases hk4 : k2 < 4
                · obtain ⟨x, hx⟩ : ∃ x, c2[k2]? = some x := ⟨_, List.getElem?_eq_getElem (by omega)⟩
                  have HY := Lib.hid (hU.next hx)
                  have hj : (4 : Int) + (k2 : Int) = ((4 + k2 : Nat) : Int) := by omega
                  have hshr : (n : Int).fdiv (2 ^ min (8 * (k2 : Int)).toNat IntKind.u32.bits) = ((n / 2 ^ (8 * k2) : Nat) : Int) := by
                    rw [show min (8 * (k2 : Int)).toNat IntKind.u32.bits = 8 * k2 by show min (8 * (k2 : Int)).toNat 32 = 8 * k2; omega, Int.fdiv_eq_ediv_of_nonneg _ (by exact_mod_cast Nat.zero_le (2 ^ (8 * k2)))]
                    simp
                  have hcell := hU.row.cell (j := 4 + k2) (c := x) (by rw [List.append_assoc, List.getElem?_append_right (by omega), hU4, show 4 + k2 - 4 = k2 by omega, List.getElem?_append_left (by omega)]; exact hx)
                  have hjl : 4 + k2 < S.size := by have := HE.out.2.1; omega
                  have hfr := hU.row.frozen (j := 4 + k2) (by have := hU.row.len; rw [List.length_append, List.length_append] at this; omega)
                  have hxor : bits .xor .u8 (x.toNat : Int) ((n : Int) / 2 ^ (8 * k2) % 256) = ((x.toNat ^^^ n / 2 ^ (8 * k2) % 256 : Nat) : Int) := by
                    rw [show ((n : Int) / 2 ^ (8 * k2) % 256) = ((n / 2 ^ (8 * k2) % 256 : Nat) : Int) by simp]
                    exact u8_xor_nat _ _ (CR.byte_lt x) (Nat.mod_lt _ (by decide))
                  clear hx hU hU4 hc4
                  generalize n / 2 ^ (8 * k2) = sq at *
                  generalize 4 + k2 = j at *
                  go_wp2
                  go_roundw
                  case rel => exact ⟨k2 + 1, _, by omega, by go_num, HY.out⟩
                  case measure => simp [intOf]; omega
                · obtain rfl : k2 = 4 := by omega
                  have htext2 := hU.row.text (P := Tryd.prog) 43 9 cap2 S.size Tryd.underlying43 Tryd.underlying5 Tryd.underlying9 (by rw [List.length_append, List.length_append, hU4, hc4]; have := HE.out.2.1; show S.size = 4 + 4 + B.size; omega)
                  have hTr2 := HT.out _ hU.bel
                  have hne := hU.fin hn hn0
                  rw [bv_be 4 (sumN B) (by have := sumN_lt B; omega)] at hne
                  have hdec2 := (bodyG_turn B.size c2 B.data.toList B.data.toList hc4 rfl HE.out.1).2 (fun e => hne e.symm)
                  have cd2 := pdecode5_c ⟨(be 4 B.size ++ c2 ++ B.data.toList).toArray⟩ 0 _ (by show (be 4 B.size ++ c2 ++ B.data.toList).toArray.size ≤ _; rw [List.size_toArray, List.length_append, List.length_append, hU4, hc4]; have := HE.out.1; show 4 + 4 + B.size ≤ _; omega) hTr2
                  rw [hdec2] at cd2
                  have HW2 := Lib.hid hU.bel
                  clear hU hU4 hc4 hTr2 hne hdec2
                  generalize (⟨(be 4 B.size ++ c2 ++ B.data.toList).toArray⟩ : ByteArray) = T2 at *
                  generalize (decG T2 0).1 = b2 at cd2
                  generalize (decG T2 0).2.1 = R2 at cd2
                  generalize (decG T2 0).2.2.1 = q2 at cd2
                  obtain ⟨o0, o1, o2, o3, o4⟩ := b2
                  unfold GotBt bnC at cd2
                  simp only at cd2
                  rcases HFE.out with ⟨ht, he⟩ | ⟨ht, he⟩
                  · subst he
                    go_wp2_with fail
                    (with_reducible refine cd2.mono ?_)
                    rintro en w8 ⟨K8, A8, c8, hK8, rfl, hrow8, hb8⟩
                    have B8 := Lib.hid ((HW2.out.trans (hb8.mono HW2.out.size)).alloc (Nat.le_trans HW2.out.size hb8.size) (.cells #[.int .i64 o0, .int .i64 o1, .int .i64 o2, .int .i64 o3, .int .i64 o4, .slice A8 K8.length c8] 24))
                    clear hrow8 hb8 hK8 cd2
                    go_wp2_with fail
                    (with_reducible refine (live5_c _ (HT.out _ B8.out)).mono ?_)
                    rintro en w9 ⟨rfl, hb9⟩
                    have H9 := Lib.hid (B8.out.trans (hb9.mono B8.out.size))
                    clear hb9
                    go_wp2_with fail
                    go_ret
                    exact ⟨rfl, H9.out⟩
                  · have he4 : (e1 == 4) = false := by rw [beq_eq_false_iff_ne]; exact he
                    go_wp2_with fail
                    (with_reducible refine cd2.mono ?_)
                    rintro en w8 ⟨K8, A8, c8, hK8, rfl, hrow8, hb8⟩
                    have B8 := Lib.hid ((HW2.out.trans (hb8.mono HW2.out.size)).alloc (Nat.le_trans HW2.out.size hb8.size) (.cells #[.int .i64 o0, .int .i64 o1, .int .i64 o2, .int .i64 o3, .int .i64 o4, .slice A8 K8.length c8] 24))
                    clear hrow8 hb8 hK8 cd2
                    go_wp2_with fail
                    (with_reducible refine (live5_c _ (HT.out _ B8.out)).mono ?_)
                    rintro en w9 ⟨rfl, hb9⟩
                    have H9 := Lib.hid (B8.out.trans (hb9.mono B8.out.size))
                    clear hb9
                    go_wp2_with fail
                    go_ret
                    exact ⟨rfl, H9.out⟩
    · rw [show encB ⟨base, span, prod, epoch, seq⟩ L = ⟨#[]⟩ by unfold encB; rw [if_neg hgood], show batE ⟨base, span, prod, epoch, seq⟩ L = 1 by unfold batE; rw [if_neg hgood]] at hen
      go_wp2_with fail
      (with_reducible refine (hen _ H1.out.2.2.1 H1.out.2.2.2).mono ?_)
      rintro en w2 ⟨rfl, hb2⟩
      have H2 := Lib.hid (And.intro (H1.out.1.trans (hb2.mono H1.out.1.size)) (H1.out.2.2.2.below hb2))
      clear hb2
      go_wp2_with fail
      (with_reducible refine (live5_c _ H2.out.2).mono ?_)
      rintro en w3 ⟨rfl, hb3⟩
      have H3 := Lib.hid (H2.out.1.trans (hb3.mono H2.out.1.size))
      clear hb3
      go_wp2_with fail
      go_ret
      exact ⟨rfl, H3.out⟩
theorem batchTurned_walk (b : BN) (L : List RX) (A : Option Addr) (c : Nat) (a1 a2 : Int) (W : World) (hR : RsIn W A L) (hlen : L.length ≤ 140737488351232) (w1 : (Lit.int .i64 a1).wf = true) (w2 : (Lit.int .u32 a2).wf = true) (hT : Tab W) :
    Calls Tryd.prog 7 #[.agg (bnC b (.slice A L.length c)), .int .i64 a1, .int .u32 a2] W (Yes W) := by
  obtain ⟨n, rfl, hn⟩ := nat_u32 w2
  have hb1 : -9223372036854775808 ≤ a1 ∧ a1 ≤ 9223372036854775807 := by simpa [Lit.wf, IntKind.min, IntKind.max, IntKind.signed, IntKind.bits] using w1
  clear w1 w2
  obtain ⟨hlo, hhi⟩ := hb1
  by_cases hneg : a1 < 0
  · exact turned5_go b L A c a1 (-(a1 + 1)).toNat n W hR hlen (by omega) (.inr (by omega)) hn hT
  · exact turned5_go b L A c a1 a1.toNat n W hR hlen (by omega) (.inl (by omega)) hn hT
end Go.Proofs.YtammmdoabjgjfaaDoor
