/- Plain arithmetic of numbers in seven-bit bytes: what is written, what is read, and that the two fit. No condition. -/
import Derived.Laws.BitsAllLaws
namespace Go.Proofs.YtjnphajkoopkgaaGreatDoor
/-- A number without its sign. -/
def code (n : Int) : Nat := if n < 0 then (2 * (-(n + 1)) + 1).toNat else (2 * n).toNat
def dec (u : Nat) : Int := if u % 2 = 1 then -((u / 2 : Nat) : Int) - 1 else ((u / 2 : Nat) : Int)
theorem dec_code (n : Int) : dec (code n) = n := by
  unfold dec code
  split <;> split <;> omega
theorem code_dec (u : Nat) : code (dec u) = u := by
  unfold dec code
  split <;> split <;> omega
theorem code_lt {n : Int} (h0 : -9223372036854775808 ≤ n) (h1 : n ≤ 9223372036854775807) : code n < 18446744073709551616 := by
  unfold code; split <;> omega
theorem dec_range {u : Nat} (h : u < 18446744073709551616) : -9223372036854775808 ≤ dec u ∧ dec u ≤ 9223372036854775807 := by
  unfold dec; split <;> omega
def encF : Nat → Nat → List UInt8
  | 0, _ => []
  | f + 1, u => if u < 128 then [UInt8.ofNat u] else UInt8.ofNat (u % 128 + 128) :: encF f (u / 128)
def enc (u : Nat) : List UInt8 := encF 10 u
/-- The bytes of a number. -/
def putL (n : Int) : List UInt8 := enc (code n)
def val : List UInt8 → Nat
  | [] => 0
  | b :: l => b.toNat % 128 + 128 * val l
theorem ofNat_toNat {x : Nat} (h : x < 256) : (UInt8.ofNat x).toNat = x := UInt8.toNat_ofNat_of_lt' (by simpa using h)
theorem toNat_lt (b : UInt8) : b.toNat < 256 := b.toNat_lt
theorem byte_eq {b c : UInt8} (h : b.toNat = c.toNat) : b = c := UInt8.toNat_inj.1 h
theorem val_append : ∀ (l m : List UInt8), val (l ++ m) = val l + 128 ^ l.length * val m
  | [], m => by simp [val]
  | b :: l, m => by
    rw [List.cons_append, val, val, val_append l m, List.length_cons, Nat.pow_succ, Nat.mul_add, Nat.mul_comm (128 ^ l.length) 128, Nat.mul_assoc]
    omega
theorem val_lt : ∀ l : List UInt8, val l < 128 ^ l.length
  | [] => by simp [val]
  | b :: l => by
    have h := val_lt l
    rw [val, List.length_cons, Nat.pow_succ]
    omega
theorem encF_ne (f u : Nat) : encF (f + 1) u ≠ [] := by
  rw [encF]; split <;> simp
theorem val_encF : ∀ (f u : Nat), u < 128 ^ f → val (encF f u) = u
  | 0, u, h => by simp at h; subst h; rfl
  | f + 1, u, h => by
    rw [encF]
    split
    · rename_i hu
      rw [val, val, ofNat_toNat (by omega)]
      omega
    · rw [val, ofNat_toNat (by omega), val_encF f (u / 128) (by rw [Nat.pow_succ] at h; omega)]
      omega
theorem encF_len : ∀ (f u : Nat), (encF f u).length ≤ f
  | 0, u => by simp [encF]
  | f + 1, u => by
    rw [encF]
    split
    · simp
    · have := encF_len f (u / 128)
      simp
      omega
theorem lt10 {u : Nat} (h : u < 18446744073709551616) : u < 128 ^ 10 := by omega
theorem val_enc {u : Nat} (h : u < 18446744073709551616) : val (enc u) = u := val_encF 10 u (lt10 h)
/-- Bytes that go on, and one that ends. -/
def Going (l : List UInt8) : Prop := ∀ b ∈ l, 128 ≤ b.toNat
theorem encF_form : ∀ (f u : Nat), u < 128 ^ (f + 1) → ∃ cs b, encF (f + 1) u = cs ++ [b] ∧ Going cs ∧ b.toNat < 128 ∧ (cs ≠ [] → b.toNat ≠ 0)
  | 0, u, h => by
    have hu : u < 128 := by simpa using h
    refine ⟨[], UInt8.ofNat u, by simp [encF, hu], fun b hb => by simp at hb, by rw [ofNat_toNat (by omega)]; exact hu, fun h => absurd rfl h⟩
  | f + 1, u, h => by
    by_cases hu : u < 128
    · exact ⟨[], UInt8.ofNat u, by rw [encF, if_pos hu]; rfl, fun b hb => by simp at hb, by rw [ofNat_toNat (by omega)]; exact hu, fun h => absurd rfl h⟩
    · have h' : u / 128 < 128 ^ (f + 1) := by rw [Nat.pow_succ] at h; omega
      obtain ⟨cs, b, he, hg, hb, hne⟩ := encF_form f (u / 128) h'
      refine ⟨UInt8.ofNat (u % 128 + 128) :: cs, b, by rw [encF, if_neg hu, he]; rfl, ?_, hb, fun _ => ?_⟩
      · intro c hc
        rcases List.mem_cons.1 hc with rfl | hc
        · rw [ofNat_toNat (by omega)]; omega
        · exact hg c hc
      · by_cases hcs : cs = []
        · subst hcs
          have hv := val_encF (f + 1) (u / 128) h'
          rw [he] at hv
          simp [val] at hv
          omega
        · exact hne hcs
theorem encF_of : ∀ (cs : List UInt8) (b : UInt8) (f : Nat), Going cs → b.toNat < 128 → (cs ≠ [] → b.toNat ≠ 0) → cs.length < f → encF f (val (cs ++ [b])) = cs ++ [b]
  | [], b, 0, _, _, _, h => by simp at h
  | [], b, f + 1, _, hb, _, _ => by
    have : b.toNat % 128 = b.toNat := Nat.mod_eq_of_lt hb
    simp [val, encF, this, hb]
  | c :: cs, b, 0, _, _, _, h => by simp at h
  | c :: cs, b, f + 1, hg, hb, hne, h => by
    have hc := hg c (by simp)
    have hc2 := toNat_lt c
    have hb0 : b.toNat ≠ 0 := hne (by simp)
    have hv : val (cs ++ [b]) ≠ 0 := by
      rw [val_append]
      have h1 : val [b] = b.toNat := by simp [val, Nat.mod_eq_of_lt hb]
      rw [h1]
      have h2 : 0 < 128 ^ cs.length * b.toNat := Nat.mul_pos (Nat.pow_pos (by decide)) (by omega)
      omega
    have ih := encF_of cs b f (fun x hx => hg x (by simp [hx])) hb (fun _ => hb0) (by simpa using h)
    rw [List.cons_append, val, encF, if_neg (by omega), show (c.toNat % 128 + 128 * val (cs ++ [b])) / 128 = val (cs ++ [b]) by omega, ih,
      show (c.toNat % 128 + 128 * val (cs ++ [b])) % 128 + 128 = c.toNat by omega]
    simp
/-- How many bytes go on, of the first f. -/
def cont : Nat → List UInt8 → Nat
  | 0, _ => 0
  | _ + 1, [] => 0
  | f + 1, b :: l => if 128 ≤ b.toNat then cont f l + 1 else 0
theorem cont_le : ∀ (f : Nat) (l : List UInt8), cont f l ≤ f ∧ cont f l ≤ l.length
  | 0, l => by simp [cont]
  | f + 1, [] => by simp [cont]
  | f + 1, b :: l => by
    have := cont_le f l
    rw [cont]
    split <;> simp <;> omega
theorem cont_going : ∀ (f : Nat) (l : List UInt8), Going (l.take (cont f l))
  | 0, l => by intro b hb; simp [cont] at hb
  | f + 1, [] => by intro b hb; simp at hb
  | f + 1, b :: l => by
    rw [cont]
    split
    · rename_i h
      intro c hc
      rw [List.take_succ_cons] at hc
      rcases List.mem_cons.1 hc with rfl | hc
      · exact h
      · exact cont_going f l c hc
    · intro c hc; simp at hc
theorem cont_end : ∀ (f : Nat) (l : List UInt8), cont f l < f → ∀ b, l[cont f l]? = some b → b.toNat < 128
  | 0, l, h, _, _ => by simp [cont] at h
  | f + 1, [], _, _, hb => by simp at hb
  | f + 1, c :: l, h, b, hb => by
    rw [cont] at h hb
    split at h
    · rename_i hc
      rw [if_pos hc] at hb
      exact cont_end f l (by omega) b (by simpa using hb)
    · rename_i hc
      rw [if_neg hc] at hb
      have : c = b := by simpa using hb
      subst this
      omega
theorem cont_of : ∀ (f : Nat) (cs rest : List UInt8), Going cs → cs.length ≤ f → (∀ b, rest.head? = some b → b.toNat < 128) → cont f (cs ++ rest) = cs.length
  | 0, [], rest, _, _, _ => by simp [cont]
  | f + 1, [], [], _, _, _ => by simp [cont]
  | f + 1, [], b :: rest, _, _, h => by
    have := h b rfl
    rw [List.nil_append, cont, if_neg (by omega)]; rfl
  | 0, c :: cs, rest, _, hl, _ => by simp at hl
  | f + 1, c :: cs, rest, hg, hl, h => by
    rw [List.cons_append, cont, if_pos (hg c (by simp)), cont_of f cs rest (fun x hx => hg x (by simp [hx])) (by simpa using hl) h]; rfl
/-- What a text's first number is: the number, how many bytes it has, the error. -/
def getR (l : List UInt8) : Int × Nat × Nat :=
  if cont 10 l = 10 then (0, 0, 3) else
  if l.length ≤ cont 10 l then (0, 0, 2) else
  if enc (val (l.take (cont 10 l + 1)) % 18446744073709551616) = l.take (cont 10 l + 1) then (dec (val (l.take (cont 10 l + 1)) % 18446744073709551616), cont 10 l + 1, 0) else (0, 0, 3)
/-- Whether the last byte b of j ends a number that could not do with fewer bytes. -/
def short (b j : Nat) : Bool := if j = 10 then decide (b = 1) else decide (j = 1 ∨ b ≠ 0)
theorem short_enc (cs : List UInt8) (b : UInt8) (hg : Going cs) (hb : b.toNat < 128) (hl : cs.length < 10) :
    short b.toNat (cs.length + 1) = decide (enc (val (cs ++ [b]) % 18446744073709551616) = cs ++ [b]) := by
  have hv := val_append cs [b]
  have hvb : val [b] = b.toNat := by simp [val, Nat.mod_eq_of_lt hb]
  rw [hvb] at hv
  have hlt := val_lt cs
  by_cases he : enc (val (cs ++ [b]) % 18446744073709551616) = cs ++ [b]
  · rw [decide_eq_true he]
    have hm : val (cs ++ [b]) % 18446744073709551616 < 18446744073709551616 := Nat.mod_lt _ (by decide)
    have h1 := val_enc hm
    rw [he] at h1
    have h2 : val (cs ++ [b]) < 18446744073709551616 := by omega
    obtain ⟨cs', b', h3, _, _, h4⟩ := encF_form 9 (val (cs ++ [b]) % 18446744073709551616) (lt10 hm)
    have h5 : cs' ++ [b'] = cs ++ [b] := by rw [← h3]; exact he
    obtain ⟨h6, h7⟩ := List.append_inj' h5 rfl
    subst h6
    have h8 : b' = b := by simpa using h7
    subst h8
    unfold short
    by_cases h10 : cs'.length + 1 = 10
    · rw [if_pos h10]
      have h9 : cs'.length = 9 := by omega
      rw [h9] at hv hlt
      have hne : b'.toNat ≠ 0 := h4 (fun e => by rw [e] at h9; simp at h9)
      simp
      omega
    · rw [if_neg h10]
      simp only [decide_eq_true_eq]
      by_cases hcs : cs' = []
      · left; subst hcs; rfl
      · right; exact h4 hcs
  · rw [decide_eq_false he]
    unfold short
    by_cases h10 : cs.length + 1 = 10
    · rw [if_pos h10]
      have h9 : cs.length = 9 := by omega
      simp only [decide_eq_false_iff_not]
      intro h1
      rw [h9, h1] at hv
      rw [h9] at hlt
      refine he ?_
      rw [Nat.mod_eq_of_lt (by omega)]
      exact encF_of cs b 10 hg hb (fun _ => by omega) (by omega)
    · rw [if_neg h10]
      simp only [decide_eq_false_iff_not]
      intro h1
      refine he ?_
      have hlen : cs.length ≤ 8 := by omega
      have hp : 128 ^ cs.length ≤ 128 ^ 8 := Nat.pow_le_pow_right (by decide) hlen
      have h2 : 128 ^ cs.length * b.toNat ≤ 128 ^ 8 * b.toNat := Nat.mul_le_mul_right _ hp
      rw [Nat.mod_eq_of_lt (by omega)]
      refine encF_of cs b 10 hg hb (fun hne => ?_) (by omega)
      rcases h1 with h1 | h1
      · exfalso
        exact hne (List.eq_nil_of_length_eq_zero (by omega))
      · exact h1
theorem cont_full : ∀ (f : Nat) (l : List UInt8), Going (l.take f) → f ≤ l.length → cont f l = f
  | 0, _, _, _ => rfl
  | f + 1, [], _, h => by simp at h
  | f + 1, b :: l, hg, h => by
    rw [cont, if_pos (hg b (by simp)), cont_full f l (fun x hx => hg x (by rw [List.take_succ_cons]; simp [hx])) (by simpa using h)]
theorem cont_at {i : Nat} {l : List UInt8} (hg : Going (l.take i)) (h10 : i ≤ 10) (hl : i ≤ l.length) (hb : ∀ b, l[i]? = some b → b.toNat < 128) : cont 10 l = i := by
  have h := cont_of 10 (l.take i) (l.drop i) hg (by rw [List.length_take]; omega) (fun b hb' => hb b (by rw [List.head?_drop] at hb'; exact hb'))
  rw [List.take_append_drop, List.length_take] at h
  omega
theorem take_going {i : Nat} {l : List UInt8} {b : UInt8} (hg : Going (l.take i)) (hb : l[i]? = some b) (h : 128 ≤ b.toNat) : Going (l.take (i + 1)) := by
  obtain ⟨hi, he⟩ := List.getElem?_eq_some_iff.1 hb
  intro c hc
  rw [List.take_succ_eq_append_getElem hi, List.mem_append] at hc
  rcases hc with hc | hc
  · exact hg c hc
  · have : c = l[i] := by simpa using hc
    rw [this, he]; exact h
theorem take_one {i : Nat} {l : List UInt8} {b : UInt8} (hb : l[i]? = some b) : l.take (i + 1) = l.take i ++ [b] := by
  obtain ⟨hi, he⟩ := List.getElem?_eq_some_iff.1 hb
  rw [List.take_succ_eq_append_getElem hi, he]
/-- One byte more laid onto the number. -/
theorem val_more {i : Nat} {l : List UInt8} {b : UInt8} (hb : l[i]? = some b) (hi : i < 10) :
    val (l.take i) % 18446744073709551616 ||| (b.toNat % 128 * 2 ^ (7 * i) % 18446744073709551616) = val (l.take (i + 1)) % 18446744073709551616 := by
  have hlt := val_lt (l.take i)
  have hle : i ≤ l.length := by have := (List.getElem?_eq_some_iff.1 hb).1; omega
  rw [List.length_take, Nat.min_eq_left hle] at hlt
  have e1 : (128 : Nat) ^ i = 2 ^ (7 * i) := by rw [show (128 : Nat) = 2 ^ 7 from rfl, ← Nat.pow_mul]
  rw [e1] at hlt
  have hp : 2 ^ (7 * i) ≤ 2 ^ 63 := Nat.pow_le_pow_right (by decide) (by omega)
  rw [take_one hb, val_append, List.length_take, Nat.min_eq_left hle, e1]
  have hv : val [b] = b.toNat % 128 := by simp [val]
  rw [hv, Nat.mod_eq_of_lt (show val (l.take i) < 18446744073709551616 by omega)]
  have h64 : (18446744073709551616 : Nat) = 2 ^ (7 * i) * 2 ^ (64 - 7 * i) := by
    rw [← Nat.pow_add, show 7 * i + (64 - 7 * i) = 64 by omega]
  have e2 : b.toNat % 128 * 2 ^ (7 * i) % 18446744073709551616 = 2 ^ (7 * i) * (b.toNat % 128 % 2 ^ (64 - 7 * i)) := by
    rw [h64, Nat.mul_comm (b.toNat % 128), Nat.mul_mod_mul_left]
  have hr : b.toNat % 128 % 2 ^ (64 - 7 * i) < 2 ^ (64 - 7 * i) := Nat.mod_lt _ (Nat.two_pow_pos _)
  have hsum : val (l.take i) + 2 ^ (7 * i) * (b.toNat % 128 % 2 ^ (64 - 7 * i)) < 18446744073709551616 := by
    have h1 : 2 ^ (7 * i) * (b.toNat % 128 % 2 ^ (64 - 7 * i) + 1) ≤ 2 ^ (7 * i) * 2 ^ (64 - 7 * i) := Nat.mul_le_mul_left _ hr
    rw [Nat.mul_add, Nat.mul_one, ← h64] at h1
    omega
  rw [e2, Nat.or_comm, nat_join (7 * i) _ _ (Nat.mul_mod_right _ _) hlt, Nat.add_comm]
  rw [← Nat.mod_eq_of_lt hsum]
  have h3 : (val (l.take i) + 2 ^ (7 * i) * (b.toNat % 128)) % 18446744073709551616 = (val (l.take i) + 2 ^ (7 * i) * (b.toNat % 128 % 2 ^ (64 - 7 * i))) % 18446744073709551616 := by
    conv => lhs; rw [← Nat.div_add_mod (b.toNat % 128) (2 ^ (64 - 7 * i)), Nat.mul_add, ← Nat.mul_assoc, ← h64]
    rw [← Nat.add_assoc, Nat.add_comm (val (l.take i)) (18446744073709551616 * _), Nat.add_assoc, Nat.mul_add_mod]
  exact h3.symm
/-- What Get hands back: the number, the place behind it, the error. -/
def getT (a : Nat) (l : List UInt8) : Int × Int × Int :=
  if (getR l).2.2 = 0 then ((getR l).1, (a : Int) + (getR l).2.1, 0) else (0, 0, (getR l).2.2)
theorem getT_form {a : Nat} {l : List UInt8} (hg : Going (l.take 10)) (h : 10 ≤ l.length) : getT a l = (0, 0, 3) := by
  have hc := cont_full 10 l hg h
  have hR : getR l = (0, 0, 3) := by unfold getR; rw [if_pos hc]
  unfold getT; rw [hR]; rfl
theorem getT_cut {a : Nat} {l : List UInt8} (hg : Going l) (h : l.length < 10) : getT a l = (0, 0, 2) := by
  have hc : cont 10 l = l.length := cont_at (by rw [List.take_length]; exact hg) (by omega) (Nat.le_refl _) (fun b hb => by simp at hb)
  have hR : getR l = (0, 0, 2) := by unfold getR; rw [if_neg (by omega), if_pos (by omega)]
  unfold getT; rw [hR]; rfl
theorem getT_at {a i : Nat} {l : List UInt8} {b : UInt8} (hg : Going (l.take i)) (hi : i < 10) (hb : l[i]? = some b) (hl : b.toNat < 128) :
    getT a l = if short b.toNat (i + 1) = true then (dec (val (l.take (i + 1)) % 18446744073709551616), (a : Int) + (i : Int) + 1, 0) else (0, 0, 3) := by
  have hil := (List.getElem?_eq_some_iff.1 hb).1
  have hc : cont 10 l = i := cont_at hg (by omega) (by omega) (fun c hc => by rw [hb] at hc; cases hc; exact hl)
  have hs := short_enc (l.take i) b hg hl (by rw [List.length_take]; omega)
  rw [← take_one hb, List.length_take, Nat.min_eq_left (by omega)] at hs
  have hR : getR l = if short b.toNat (i + 1) = true then (dec (val (l.take (i + 1)) % 18446744073709551616), i + 1, 0) else (0, 0, 3) := by
    unfold getR
    rw [if_neg (by omega), if_neg (by omega), hc]
    by_cases he : enc (val (l.take (i + 1)) % 18446744073709551616) = l.take (i + 1)
    · rw [if_pos he, if_pos (by rw [hs, decide_eq_true he])]
    · rw [if_neg he, if_neg (by rw [hs, decide_eq_false he]; simp)]
  unfold getT
  rw [hR]
  split
  · simp; omega
  · simp
end Go.Proofs.YtjnphajkoopkgaaGreatDoor
