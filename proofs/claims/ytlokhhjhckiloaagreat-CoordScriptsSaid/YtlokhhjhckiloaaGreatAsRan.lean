/- assign: Range, by a contract. No condition. -/
import Derived.Test.YtlokhhjhckiloaaGreatAsSh
namespace Go.Proofs.YtlokhhjhckiloaaGreat
open Go.RowKit
set_option linter.unusedVariables false
/-- How many of n partitions the j-th of so many takers gets; how many those ahead have got. -/
def rowN (n len j : Nat) : Nat := n / len + (if j < n % len then 1 else 0)
def offN (n len j : Nat) : Nat := j * (n / len) + min j (n % len)
theorem offN_zero (n len : Nat) : offN n len 0 = 0 := by simp [offN]
theorem offN_succ (n len j : Nat) : offN n len (j + 1) = offN n len j + rowN n len j := by
  unfold offN rowN
  rw [Nat.succ_mul]
  split <;> omega
theorem offN_all (n len : Nat) (h : 0 < len) : offN n len len = n := by
  unfold offN
  have := Nat.mod_lt n h
  have h2 := Nat.div_add_mod n len
  rw [Nat.min_eq_right (by omega)]
  omega
theorem offN_le {n len j : Nat} (h : j < len) : offN n len j + rowN n len j ≤ n := by
  have h1 : ∀ a b, a ≤ b → offN n len a ≤ offN n len b := by
    intro a b hab
    unfold offN
    have := Nat.mul_le_mul_right (n / len) hab
    omega
  rw [← offN_succ]
  have := h1 (j + 1) len h
  rw [offN_all n len (by omega)] at this
  exact this
/-- What the j-th taker gets. -/
def chunkN (s : ByteArray) (n len j : Nat) : List TX := ((prtsG s n).drop (offN n len j)).take (rowN n len j)
theorem chunkN_len {s : ByteArray} {n len j : Nat} (h : j < len) : (chunkN s n len j).length = rowN n len j := by
  unfold chunkN
  have := offN_le (n := n) h
  rw [List.length_take, List.length_drop, prtsG_len]
  omega
/-- A topic dealt to the first j takers. -/
def dealK (L : List Nat) (s : ByteArray) (n : Nat) (D : Nat → List TX) : Nat → Nat → List TX
  | 0 => D
  | j + 1 => match L[j]? with
    | some m => updD (dealK L s n D j) m (dealK L s n D j m ++ chunkN s n L.length j)
    | none => dealK L s n D j
theorem dealK_succ {L : List Nat} {s : ByteArray} {n : Nat} {D : Nat → List TX} {j m : Nat} (h : L[j]? = some m) : dealK L s n D (j + 1) = updD (dealK L s n D j) m (dealK L s n D j m ++ chunkN s n L.length j) := by
  rw [dealK, h]
theorem dealK_len {L : List Nat} {s : ByteArray} {n : Nat} {D : Nat → List TX} : ∀ j, j ≤ L.length → ∀ k, (dealK L s n D j k).length ≤ (D k).length + offN n L.length j
  | 0, _, k => by rw [dealK]; omega
  | j + 1, hj, k => by
    rw [dealK_succ (List.getElem?_eq_getElem (by omega : j < L.length)), offN_succ]
    have ih := dealK_len (L := L) (s := s) (n := n) (D := D) j (by omega)
    unfold updD
    split
    · rw [List.length_append, chunkN_len (by omega : j < L.length)]
      subst_vars
      have := ih L[j]
      omega
    · have := ih k
      omega
def stepR (S : List SX) (D : Nat → List TX) (t : TX) : Nat → List TX := dealK (takersG S t.1 S.length) t.1 t.2.toNat D (takersG S t.1 S.length).length
def rangeD (S : List SX) (T : List TX) : Nat → List TX := T.foldl (stepR S) (fun _ => [])
theorem rangeD_succ {S : List SX} {T : List TX} {k : Nat} {t : TX} (h : T[k]? = some t) : rangeD S (T.take (k + 1)) = stepR S (rangeD S (T.take k)) t := by
  unfold rangeD
  rw [List.take_add_one, h, Option.toList_some, List.foldl_append]
  rfl
theorem stepR_len {S : List SX} {D : Nat → List TX} {t : TX} (h : t.2 ≤ 16) (k : Nat) : (stepR S D t k).length ≤ (D k).length + 16 := by
  unfold stepR
  have := dealK_len (L := takersG S t.1 S.length) (s := t.1) (n := t.2.toNat) (D := D) _ (Nat.le_refl _) k
  by_cases h0 : 0 < (takersG S t.1 S.length).length
  · rw [offN_all _ _ h0] at this
    omega
  · rw [show (takersG S t.1 S.length).length = 0 by omega] at this ⊢
    rw [offN_zero] at this
    omega
theorem rangeD_len {S : List SX} {T : List TX} (hT : ∀ t ∈ T, t.2 ≤ 16) : ∀ k, k ≤ T.length → ∀ m, (rangeD S (T.take k) m).length ≤ 16 * k
  | 0, _, m => by simp [rangeD]
  | k + 1, hk, m => by
    have hx : T[k]? = some T[k] := List.getElem?_eq_getElem (by omega)
    rw [rangeD_succ hx]
    have h1 := rangeD_len (S := S) hT k (by omega) m
    have h2 := stepR_len (S := S) (D := rangeD S (T.take k)) (hT _ (List.getElem_mem (by omega : k < T.length))) m
    omega
/-- What Check's OK says. -/
theorem chk_ok {S : List SX} {T : List TX} (h : chkE S T = 0) : mayS S = true ∧ mayT T = true := by
  unfold chkE at h
  split at h
  · rename_i h1
    simpa using h1
  · cases h
theorem chk_cases (S : List SX) (T : List TX) : chkE S T = 0 ∨ chkE S T = 1 := by
  unfold chkE
  split <;> simp
theorem mayS_iff {S : List SX} : mayS S = true ↔ S.length ≤ 20 ∧ (∀ x ∈ S, okS x = true) ∧ risesB sL S = true := by
  unfold mayS
  simp [and_assoc]
theorem mayT_iff {T : List TX} : mayT T = true ↔ T.length ≤ 20 ∧ (∀ x ∈ T, okT x = true) ∧ risesB tL T = true := by
  unfold mayT
  simp [and_assoc]
theorem okT_iff {x : TX} : okT x = true ↔ 1 ≤ x.2 ∧ x.2 ≤ 16 := by
  unfold okT
  simp
/-- Shares of the members, new. -/
def GotSh (W : World) (S : List SX) (D : Nat → List TX) (e : Ending) (w' : World) : Prop := ∃ A c R, e = .returned (.tuple #[.slice A S.length c, .int .i64 0]) ∧ ShIs W.heap.size w' (.slice A S.length c) R D ∧ R.map (·.1) = S.map (·.1) ∧ Below W.heap.size W w'
/-- Dealing under way. -/
structure RgS (W : World) (S : List SX) (v : Value) (D : Nat → List TX) (R : List (Int × Value)) (w : World) : Prop where
  sh : ShIs W.heap.size w v R D
  mem : R.map (·.1) = S.map (·.1)
  bel : Below W.heap.size W w
theorem RgS.later {W w w' : World} {S : List SX} {v : Value} {D : Nat → List TX} {R : List (Int × Value)} (h : RgS W S v D R w) (hb : Below w.heap.size w w') : RgS W S v D R w' := ⟨h.sh.later hb, h.mem, h.bel.trans (hb.mono h.bel.size)⟩
/-- A topic's dealing under way. -/
structure RgI (W : World) (S : List SX) (v : Value) (bt : Nat) (t : TX) (A3 : Option Addr) (c3 : Nat) (L : List Nat) (p cp n : Nat) (D : Nat → List TX) (R : List (Int × Value)) (w : World) : Prop where
  st : RgS W S v D R w
  box : Box w bt 162 (tpC t)
  tak : w.ownsRow W.heap.size 3 1 (.slice A3 L.length c3) L.length (intsC L)
  prt : w.ownsRow W.heap.size 34 2 (.slice (some ⟨p, 0, none⟩) n cp) n (prtC (prtsG t.1 n))
  far : ∀ (k : Nat) (r : Int × Value), R[k]? = some r → r.2.ownBlock ≠ some p
theorem RgI.later {W w w' : World} {S : List SX} {v : Value} {bt : Nat} {t : TX} {A3 : Option Addr} {c3 : Nat} {L : List Nat} {p cp n : Nat} {D : Nat → List TX} {R : List (Int × Value)} (h : RgI W S v bt t A3 c3 L p cp n D R w) (hb : Below w.heap.size w w') : RgI W S v bt t A3 c3 L p cp n D R w' :=
  ⟨h.st.later hb, h.box.later hb, own_below h.tak hb, own_below h.prt hb, h.far⟩
theorem map_set_same {R : List (Int × Value)} {m : Nat} {r : Int × Value} (h : R[m]? = some r) (v : Value) : (R.set m (r.1, v)).map (·.1) = R.map (·.1) := by
  apply List.ext_getElem?
  intro k
  simp only [List.getElem?_map, List.getElem?_set]
  split
  · subst_vars
    split
    · rw [h]; rfl
    · rename_i hlt
      rw [List.getElem?_eq_none (by omega)]
  · rfl
theorem RgS.gave {W w w' : World} {S : List SX} {g n c m : Nat} {D : Nat → List TX} {R : List (Int × Value)} {r : Int × Value} {N : List TX} {e : Ending} (h : RgS W S (.slice (some ⟨g, 0, none⟩) n c) D R w) (hm : R[m]? = some r) (hg : Gave W.heap.size g n c R D m r N w e w') :
    ∃ v', e = .returned (.tuple #[]) ∧ RgS W S (.slice (some ⟨g, 0, none⟩) n c) (updD D m (D m ++ N)) (R.set m (r.1, v')) w' ∧ Off (fun k => k = g ∨ r.2.ownBlock = some k) w w' ∧ (∀ k, v'.ownBlock = some k → r.2.ownBlock = some k ∨ w.heap.size ≤ k) := by
  obtain ⟨v', e1, e2, e3, e4⟩ := hg
  obtain ⟨hn, g', eg, _, hbg, _⟩ := h.sh.at_ hm
  injection eg with eg
  injection eg with eg
  subst eg
  refine ⟨v', e1, ⟨e2, by rw [map_set_same hm]; exact h.mem, h.bel.trans (e3.below (B := W.heap.size) h.bel.size fun k hk => ?_)⟩, e3, e4⟩
  rcases hk with rfl | hk
  · exact hbg
  · exact (own_blk (h.sh.parts m r hm) hk).1
theorem RgI.gave {W w w' : World} {S : List SX} {g n' c m : Nat} {bt : Nat} {t : TX} {A3 : Option Addr} {c3 : Nat} {L : List Nat} {p cp n : Nat} {D : Nat → List TX} {R : List (Int × Value)} {r : Int × Value} {N : List TX} {e : Ending}
    (h : RgI W S (.slice (some ⟨g, 0, none⟩) n' c) bt t A3 c3 L p cp n D R w) (hm : R[m]? = some r) (hg : Gave W.heap.size g n' c R D m r N w e w') : e = .returned (.tuple #[]) ∧ ∃ R', RgI W S (.slice (some ⟨g, 0, none⟩) n' c) bt t A3 c3 L p cp n (updD D m (D m ++ N)) R' w' := by
  obtain ⟨v', e1, e2, e3, e4⟩ := h.st.gave hm hg
  have hpm := h.st.sh.parts m r hm
  have hrow := h.st.sh.row
  have gb : ∀ k, k = g → (Value.slice (some ⟨g, 0, none⟩) n' c).ownBlock = some k := fun k e => by rw [e]; rfl
  have hp : w.ownsRow W.heap.size 34 2 (.slice (some ⟨p, 0, none⟩) n cp) n (prtC (prtsG t.1 n)) := h.prt
  refine ⟨e1, R.set m (r.1, v'), e2, h.box.off e3 ?_, own_off h.tak e3 ?_, own_off h.prt e3 ?_, fun k q hq hk => ?_⟩
  · rintro (hb | hb)
    · exact own_ne hrow h.box (by decide) _ (gb _ hb) rfl
    · exact own_ne hpm h.box (by decide) _ hb rfl
  · rintro k hk (hb | hb)
    · exact own_two h.tak hrow (by decide) k hk (gb _ hb)
    · exact own_two h.tak hpm (by decide) k hk hb
  · rintro k hk (hb | hb)
    · exact own_two h.prt hrow (by decide) k hk (gb _ hb)
    · have : p = k := by simpa [Value.ownBlock] using hk
      subst this
      exact h.far m r hm hb
  · by_cases e : k = m
    · subst e
      rw [List.getElem?_set_self (List.getElem?_eq_some_iff.1 hm).1] at hq
      injection hq with hq
      subst hq
      rcases e4 p hk with hh | hh
      · exact h.far k r hm hh
      · have := (own_blk h.prt (show (Value.slice (some ⟨p, 0, none⟩) n cp).ownBlock = some p from rfl)).2
        omega
    · rw [List.getElem?_set_ne (fun x => e x.symm)] at hq
      exact h.far k q hq hk
theorem RgI.tbox {W w : World} {S : List SX} {v : Value} {bt : Nat} {t : TX} {A3 : Option Addr} {c3 : Nat} {L : List Nat} {p cp n : Nat} {D : Nat → List TX} {R : List (Int × Value)} (h : RgI W S v bt t A3 c3 L p cp n D R w) : w.cell? ⟨bt, 0, none⟩ = some (.string t.1) ∧ w.cell? ⟨bt, 1, none⟩ = some (.int .i64 t.2) ∧ bt < w.heap.size :=
  ⟨(h.box.cell 0).trans rfl, (h.box.cell 1).trans rfl, h.box.lt⟩
/-- What is left of a topic's partitions lies behind those that were given. -/
theorem RgI.left {W w : World} {S : List SX} {v : Value} {bt : Nat} {t : TX} {A3 : Option Addr} {c3 : Nat} {L : List Nat} {p cp n : Nat} {D : Nat → List TX} {R : List (Int × Value)} (h : RgI W S v bt t A3 c3 L p cp n D R w) (o k : Nat) : TpIn w (some ⟨p, o * 2, none⟩) (((prtsG t.1 n).drop o).take k) := fun hp => by
  have hn : 0 < n := by rw [List.length_take, List.length_drop, prtsG_len] at hp; omega
  obtain ⟨g, e, hlt, _, _, hc⟩ := own_in h.prt hn
  injection e with e
  injection e with e
  subst e
  refine ⟨p, o * 2, rfl, hlt, fun j x hx => ?_⟩
  have hx' : (prtsG t.1 n)[o + j]? = some x := by
    rw [List.getElem?_take] at hx
    split at hx
    · rwa [List.getElem?_drop] at hx
    · cases hx
  rw [show o * 2 + j * 2 = (o + j) * 2 by omega, show (o + j) * 2 + 1 = (o + j) * 2 + 1 from rfl]
  exact ⟨hc _ _ (prtC_at hx').1, hc _ _ (prtC_at hx').2⟩
end Go.Proofs.YtlokhhjhckiloaaGreat
