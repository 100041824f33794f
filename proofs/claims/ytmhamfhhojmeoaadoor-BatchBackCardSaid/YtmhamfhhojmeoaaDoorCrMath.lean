/- Plain arithmetic of the sum: the table of sixteen and the bit by bit register are one; no condition. -/
import Derived.Laws.BitsAllLaws
namespace Go.Proofs.YtmhamfhhojmeoaaDoor.CR
def nib (i : Nat) : Nat := [0, 274646895, 549293790, 820201905, 1098587580, 1361435347, 1640403810, 1905808397, 2197175160, 2460548119, 2722870694, 2987750089, 3280807620, 3553878443, 3811616794, 4084100981].getD i 0
def step4 (r : Nat) : Nat := (r / 16) ^^^ nib (r % 16)
def step8 (r : Nat) (b : UInt8) : Nat := step4 (step4 (r ^^^ b.toNat))
def crc (r : Nat) (l : List UInt8) : Nat := l.foldl step8 r
theorem nib_lt (i : Nat) : nib i < 4294967296 := by
  rcases Nat.lt_or_ge i 16 with h | h
  · have : ∀ i : Fin 16, nib i < 4294967296 := by decide
    exact this ⟨i, h⟩
  · unfold nib; rw [List.getD_eq_getElem?_getD, List.getElem?_eq_none (by simpa using h)]; decide
theorem xor_lt32 {a b : Nat} (ha : a < 4294967296) (hb : b < 4294967296) : a ^^^ b < 4294967296 := Nat.xor_lt_two_pow (n := 32) ha hb
theorem step4_lt {r : Nat} (h : r < 4294967296) : step4 r < 4294967296 := xor_lt32 (by omega) (nib_lt _)
theorem byte_lt (b : UInt8) : b.toNat < 256 := b.toNat_lt
theorem step8_lt {r : Nat} (b : UInt8) (h : r < 4294967296) : step8 r b < 4294967296 := step4_lt (step4_lt (xor_lt32 h (by have := byte_lt b; omega)))
theorem crc_lt (l : List UInt8) : ∀ {r : Nat}, r < 4294967296 → crc r l < 4294967296 := by
  induction l with
  | nil => exact fun h => h
  | cons b l ih => exact fun h => ih (step8_lt b h)
theorem crc_snoc (r : Nat) (l : List UInt8) (b : UInt8) : crc r (l ++ [b]) = step8 (crc r l) b := by simp [crc]
theorem crc_append (r : Nat) (l m : List UInt8) : crc r (l ++ m) = crc (crc r l) m := by simp [crc]
theorem take_snoc (s : ByteArray) (k : Nat) (h : k < s.size) : s.data.toList.take (k + 1) = s.data.toList.take k ++ [s[k]] := by
  rw [List.take_succ_eq_append_getElem (by simpa using h)]; rfl
def lf (r : Nat) : Nat := if r % 2 = 1 then (r / 2) ^^^ 2197175160 else r / 2
def rb (b r : Nat) : Nat → Nat
  | 0 => r
  | k + 1 => lf (rb b r k ^^^ (b / 2 ^ k % 2))
theorem lf_lt {r : Nat} (h : r < 4294967296) : lf r < 4294967296 := by
  unfold lf; split
  · exact xor_lt32 (by omega) (by decide)
  · omega
theorem bit_lt (b k : Nat) : b / 2 ^ k % 2 < 4294967296 := by omega
theorem rb_lt (b : Nat) {r : Nat} (h : r < 4294967296) : ∀ k, rb b r k < 4294967296
  | 0 => h
  | k + 1 => lf_lt (xor_lt32 (rb_lt b h k) (bit_lt b k))
theorem xor_two_mod (a c : Nat) : (a ^^^ 2 * c) % 2 = a % 2 := by
  have h := Nat.xor_mod_two_pow (a := a) (b := 2 * c) (n := 1)
  simpa using h
theorem xor_two_div (a c : Nat) : (a ^^^ 2 * c) / 2 = a / 2 ^^^ c := by
  have h := Nat.xor_div_two_pow (a := a) (b := 2 * c) (n := 1)
  simpa using h
theorem lf_two (a c : Nat) : lf (a ^^^ 2 * c) = lf a ^^^ c := by
  unfold lf
  rw [xor_two_mod, xor_two_div]
  split
  · rw [Nat.xor_assoc, Nat.xor_assoc, Nat.xor_comm c]
  · rfl
theorem split_pow (n b : Nat) : (b % 2 ^ n) ^^^ 2 ^ n * (b / 2 ^ n) = b := by
  have hp : 0 < 2 ^ n := Nat.two_pow_pos n
  have h1 : ((b % 2 ^ n) ^^^ 2 ^ n * (b / 2 ^ n)) / 2 ^ n = b / 2 ^ n := by
    rw [Nat.xor_div_two_pow, Nat.mul_div_cancel_left _ hp, Nat.div_eq_of_lt (Nat.mod_lt _ hp), Nat.zero_xor]
  have h2 : ((b % 2 ^ n) ^^^ 2 ^ n * (b / 2 ^ n)) % 2 ^ n = b % 2 ^ n := by
    rw [Nat.xor_mod_two_pow, Nat.mul_mod_right, Nat.mod_mod, Nat.xor_zero]
  rw [← Nat.div_add_mod ((b % 2 ^ n) ^^^ 2 ^ n * (b / 2 ^ n)) (2 ^ n), h1, h2, Nat.div_add_mod]
def lfn : Nat → Nat → Nat
  | 0, r => r
  | k + 1, r => lf (lfn k r)
theorem rb_lfn (b r : Nat) : ∀ k, rb b r k ^^^ (b / 2 ^ k) = lfn k (r ^^^ b)
  | 0 => by simp [rb, lfn]
  | k + 1 => by
    have hs := split_pow 1 (b / 2 ^ k)
    rw [Nat.pow_one, Nat.div_div_eq_div_mul, ← Nat.pow_succ] at hs
    rw [rb, lfn, ← rb_lfn b r k, ← lf_two, Nat.xor_assoc, hs]
theorem lfn_pow (a c : Nat) : ∀ k, lfn k (a ^^^ 2 ^ k * c) = lfn k a ^^^ c
  | 0 => by simp [lfn]
  | k + 1 => by
    have e : 2 ^ (k + 1) * c = 2 ^ k * (2 * c) := by rw [Nat.pow_succ, Nat.mul_assoc]
    rw [lfn, lfn, e, lfn_pow a (2 * c) k, lf_two]
theorem nib_lfn : ∀ i : Fin 16, nib i = lfn 4 i := by decide
theorem step4_lfn (r : Nat) : step4 r = lfn 4 r := by
  have h := lfn_pow (r % 2 ^ 4) (r / 2 ^ 4) 4
  rw [split_pow] at h
  rw [h, step4, nib_lfn ⟨r % 16, by omega⟩, Nat.xor_comm]
theorem lfn_add (j : Nat) (r : Nat) : ∀ k, lfn (k + j) r = lfn k (lfn j r)
  | 0 => by simp [lfn]
  | k + 1 => by rw [Nat.add_right_comm, lfn, lfn, lfn_add j r k]
theorem step8_rb (r : Nat) (b : UInt8) : step8 r b = rb b.toNat r 8 := by
  have h := rb_lfn b.toNat r 8
  rw [Nat.div_eq_of_lt (by have := b.toNat_lt; simpa using this), Nat.xor_zero] at h
  rw [h, step8, step4_lfn, step4_lfn, ← lfn_add]
theorem xor_swap (a b c : Nat) : a ^^^ (b ^^^ c) = b ^^^ (a ^^^ c) := by rw [← Nat.xor_assoc, Nat.xor_comm a b, Nat.xor_assoc]
theorem mul_xor (k a b : Nat) : 2 ^ k * (a ^^^ b) = 2 ^ k * a ^^^ 2 ^ k * b := by
  have hp : 0 < 2 ^ k := Nat.two_pow_pos k
  have h1 : (2 ^ k * a ^^^ 2 ^ k * b) / 2 ^ k = a ^^^ b := by rw [Nat.xor_div_two_pow, Nat.mul_div_cancel_left _ hp, Nat.mul_div_cancel_left _ hp]
  have h2 : (2 ^ k * a ^^^ 2 ^ k * b) % 2 ^ k = 0 := by rw [Nat.xor_mod_two_pow, Nat.mul_mod_right, Nat.mul_mod_right]; rfl
  rw [← Nat.div_add_mod (2 ^ k * a ^^^ 2 ^ k * b) (2 ^ k), h1, h2, Nat.add_zero]
theorem xor_mod2 (a b : Nat) : (a ^^^ b) % 2 = (a % 2 + b % 2) % 2 := by
  have h := Nat.xor_mod_two_pow (a := a) (b := b) (n := 1)
  rw [Nat.pow_one] at h
  rw [h]
  rcases Nat.mod_two_eq_zero_or_one a with ha | ha <;> rcases Nat.mod_two_eq_zero_or_one b with hb | hb <;> rw [ha, hb] <;> rfl
theorem xor_div2 (a b : Nat) : (a ^^^ b) / 2 = a / 2 ^^^ b / 2 := by
  have h := Nat.xor_div_two_pow (a := a) (b := b) (n := 1)
  simpa using h
theorem lf_xor (a b : Nat) : lf (a ^^^ b) = lf a ^^^ lf b := by
  unfold lf
  rw [xor_mod2, xor_div2]
  rcases Nat.mod_two_eq_zero_or_one a with ha | ha <;> rcases Nat.mod_two_eq_zero_or_one b with hb | hb <;> rw [ha, hb] <;> simp [Nat.xor_assoc, Nat.xor_comm, xor_swap]
theorem lfn_xor (a b : Nat) : ∀ k, lfn k (a ^^^ b) = lfn k a ^^^ lfn k b
  | 0 => rfl
  | k + 1 => by rw [lfn, lfn, lfn, lfn_xor a b k, lf_xor]
theorem lf_zero : lf 0 = 0 := by decide
theorem lfn_zero : ∀ k, lfn k 0 = 0
  | 0 => rfl
  | k + 1 => by rw [lfn, lfn_zero k, lf_zero]
theorem lfn_lt {r : Nat} (h : r < 4294967296) : ∀ k, lfn k r < 4294967296
  | 0 => h
  | k + 1 => lf_lt (lfn_lt h k)
theorem lf_eq_zero {r : Nat} (h : r < 4294967296) (h0 : lf r = 0) : r = 0 := by
  unfold lf at h0
  split at h0
  · have h1 : r / 2 = 2197175160 := by
      have h2 : (r / 2 ^^^ 2197175160) ^^^ 2197175160 = 2197175160 := by rw [h0, Nat.zero_xor]
      rwa [Nat.xor_assoc, Nat.xor_self, Nat.xor_zero] at h2
    omega
  · omega
theorem lfn_eq_zero {r : Nat} (h : r < 4294967296) : ∀ {k}, lfn k r = 0 → r = 0
  | 0, h0 => h0
  | _ + 1, h0 => lfn_eq_zero h (lf_eq_zero (lfn_lt h _) h0)
theorem xor_eq_zero {a b : Nat} (h : a ^^^ b = 0) : a = b := by
  have h1 : (a ^^^ b) ^^^ b = b := by rw [h, Nat.zero_xor]
  rwa [Nat.xor_assoc, Nat.xor_self, Nat.xor_zero] at h1
/-- A text as one number, the first byte the lowest. -/
def num : List UInt8 → Nat
  | [] => 0
  | b :: l => b.toNat + 256 * num l
theorem num_lt : ∀ l : List UInt8, num l < 256 ^ l.length
  | [] => by simp [num]
  | b :: l => by
    have h := num_lt l
    have hb := byte_lt b
    rw [num, List.length_cons, Nat.pow_succ]
    omega
theorem join256 (b c : Nat) (h : b < 256) : b ^^^ 2 ^ 8 * c = b + 256 * c := by
  have h1 := split_pow 8 (b + 256 * c)
  rw [show (b + 256 * c) % 2 ^ 8 = b by omega, show (b + 256 * c) / 2 ^ 8 = c by omega] at h1
  exact h1
theorem crc_lfn : ∀ (l : List UInt8) (r : Nat), crc r l = lfn (8 * l.length) (r ^^^ num l) ^^^ 0
  | [], r => by simp [crc, lfn, num]
  | b :: l, r => by
    have h1 : crc r (b :: l) = crc (step8 r b) l := rfl
    rw [h1, crc_lfn l, List.length_cons, Nat.mul_succ, lfn_add, num, ← join256 _ _ (byte_lt b), ← Nat.xor_assoc, lfn_pow]
    rw [step8_rb]
    have h := rb_lfn b.toNat r 8
    rw [Nat.div_eq_of_lt (by have := b.toNat_lt; simpa using this), Nat.xor_zero] at h
    rw [h]
theorem crc_num (l : List UInt8) (r : Nat) : crc r l = lfn (8 * l.length) (r ^^^ num l) := by rw [crc_lfn, Nat.xor_zero]
theorem crc_inj {x y : Nat} (hx : x < 4294967296) (hy : y < 4294967296) (l : List UInt8) (h : crc x l = crc y l) : x = y := by
  rw [crc_num, crc_num, lfn_xor, lfn_xor y] at h
  have h1 : lfn (8 * l.length) x = lfn (8 * l.length) y := by
    have h2 : (lfn (8 * l.length) x ^^^ lfn (8 * l.length) (num l)) ^^^ lfn (8 * l.length) (num l) = (lfn (8 * l.length) y ^^^ lfn (8 * l.length) (num l)) ^^^ lfn (8 * l.length) (num l) := by rw [h]
    rwa [Nat.xor_assoc, Nat.xor_assoc, Nat.xor_self, Nat.xor_zero, Nat.xor_zero] at h2
  have h3 : lfn (8 * l.length) (x ^^^ y) = 0 := by rw [lfn_xor, h1, Nat.xor_self]
  exact xor_eq_zero (lfn_eq_zero (xor_lt32 hx hy) h3)
/-- The sum as a number. -/
def ext (sum : Nat) (l : List UInt8) : Nat := 4294967295 ^^^ crc (4294967295 ^^^ sum) l
theorem ext_lt {sum : Nat} (h : sum < 4294967296) (l : List UInt8) : ext sum l < 4294967296 := xor_lt32 (by decide) (crc_lt l (xor_lt32 (by decide) h))
theorem xor_left_inj {a b c : Nat} (h : c ^^^ a = c ^^^ b) : a = b := by
  have h1 : c ^^^ (c ^^^ a) = c ^^^ (c ^^^ b) := by rw [h]
  rwa [← Nat.xor_assoc, ← Nat.xor_assoc, Nat.xor_self, Nat.zero_xor, Nat.zero_xor] at h1
theorem ext_inj {x y : Nat} (hx : x < 4294967296) (hy : y < 4294967296) (l : List UInt8) (h : ext x l = ext y l) : x = y :=
  xor_left_inj (crc_inj (xor_lt32 (by decide) hx) (xor_lt32 (by decide) hy) l (xor_left_inj h))
theorem ext_append (sum : Nat) (l m : List UInt8) : ext (ext sum l) m = ext sum (l ++ m) := by
  unfold ext
  rw [crc_append, ← Nat.xor_assoc, Nat.xor_self, Nat.zero_xor]
theorem ext_nil {sum : Nat} : ext sum [] = sum := by
  unfold ext crc
  rw [List.foldl_nil, ← Nat.xor_assoc, Nat.xor_self, Nat.zero_xor]
/-- Bits turned within 32 turn the sum. -/
theorem ext_turned (l m : List UInt8) (hl : m.length = l.length) (f R : Nat) (hR : R < 4294967296) (hm : num m = num l ^^^ 2 ^ f * R) (hne : R ≠ 0) (hf : f ≤ 8 * l.length) : ext 0 m ≠ ext 0 l := by
  intro h
  have h1 := xor_left_inj h
  rw [crc_num, crc_num, hl, hm, ← Nat.xor_assoc, lfn_xor _ (2 ^ f * R)] at h1
  have h2 : lfn (8 * l.length) (2 ^ f * R) = 0 := by
    exact (xor_eq_zero (a := lfn (8 * l.length) (2 ^ f * R)) (b := 0) (by
      have h3 := congrArg (fun z => lfn (8 * l.length) (4294967295 ^^^ 0 ^^^ num l) ^^^ z) h1
      rw [Nat.xor_zero]
      have h4 : lfn (8 * l.length) (4294967295 ^^^ 0 ^^^ num l) ^^^ (lfn (8 * l.length) (4294967295 ^^^ 0 ^^^ num l) ^^^ lfn (8 * l.length) (2 ^ f * R)) = lfn (8 * l.length) (4294967295 ^^^ 0 ^^^ num l) ^^^ lfn (8 * l.length) (4294967295 ^^^ 0 ^^^ num l) := h3
      rwa [← Nat.xor_assoc, Nat.xor_self, Nat.zero_xor] at h4))
  have h4 : 8 * l.length = (8 * l.length - f) + f := by omega
  have h5 := lfn_pow 0 R f
  rw [Nat.zero_xor, lfn_zero, Nat.zero_xor] at h5
  rw [h4, lfn_add, h5] at h2
  exact hne (lfn_eq_zero hR h2)
theorem num_inj : ∀ (l m : List UInt8), m.length = l.length → num m = num l → m = l
  | [], [], _, _ => rfl
  | [], _ :: _, h, _ => by simp at h
  | _ :: _, [], h, _ => by simp at h
  | b :: l, c :: m, h, he => by
    rw [num, num] at he
    have hb := byte_lt b
    have hc := byte_lt c
    have h1 : c.toNat = b.toNat := by omega
    have h2 : num m = num l := by omega
    rw [num_inj l m (by simpa using h) h2, UInt8.toNat_inj.1 h1]
/-- A byte turned is the number turned. -/
theorem num_set : ∀ (l : List UInt8) (i : Nat) (b x : Nat) (c : UInt8), l[i]? = some c → x < 256 → b = (c.toNat ^^^ x) → num (l.set i (UInt8.ofNat b)) = num l ^^^ 2 ^ (8 * i) * x
  | [], i, _, _, _, h, _, _ => by simp at h
  | d :: l, 0, b, x, c, h, hx, hb => by
    simp at h
    subst h
    have hd := byte_lt d
    have hlt : d.toNat ^^^ x < 256 := Nat.xor_lt_two_pow (n := 8) hd hx
    subst hb
    rw [List.set_cons_zero, num, num, UInt8.toNat_ofNat_of_lt' (by simpa using hlt), ← join256 _ _ hlt, ← join256 _ _ hd, Nat.mul_zero, Nat.pow_zero, Nat.one_mul, Nat.xor_assoc, Nat.xor_assoc, Nat.xor_comm x]
  | d :: l, i + 1, b, x, c, h, hx, hb => by
    have h1 : l[i]? = some c := by rw [List.getElem?_cons_succ] at h; exact h
    rw [List.set_cons_succ, num, num, num_set l i b x c h1 hx hb, ← join256 _ _ (byte_lt d), ← join256 _ _ (byte_lt d), Nat.mul_succ, Nat.add_comm, Nat.pow_add]
    rw [mul_xor, Nat.xor_assoc, Nat.mul_assoc]
end Go.Proofs.YtmhamfhhojmeoaaDoor.CR
