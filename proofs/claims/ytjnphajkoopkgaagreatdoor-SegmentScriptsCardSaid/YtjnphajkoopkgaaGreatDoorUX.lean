/- Merged texts. What each proves is told at its head. -/
import Derived.Test.YtjnphajkoopkgaaGreatDoorUU
import Derived.Test.YtjnphajkoopkgaaGreatDoorUW
import Derived.Test.YtjnphajkoopkgaaGreatDoorUR
/- The document's Scan of batches; the laws BatchDecodes and BatchScans walk to true. Condition: the table of sums. -/
namespace Go.Proofs.YtjnphajkoopkgaaGreatDoor
open Go.RowKit
set_option linter.unusedVariables false
set_option maxHeartbeats 16000000 in
set_option maxRecDepth 100000 in
theorem rscan5_c (s : ByteArray) (W : World) (hs : s.size ≤ 5000000) :
    Calls Tryz.prog 61 #[.string s] W (GotSc W (scanG s (s.size + 1) 0).1 (scanG s (s.size + 1) 0).2) := by
  obtain ⟨R, hR⟩ : ∃ R, (scanG s (s.size + 1) 0).1 = R := ⟨_, rfl⟩
  obtain ⟨q, hq⟩ : ∃ q, (scanG s (s.size + 1) 0).2 = q := ⟨_, rfl⟩
  have H0 : Hid (ScanS s W R q none 0 [] 0 W) := Lib.hid ⟨BtsR.nil _ _, Below.refl _ _, by simp, by omega, s.size + 1, by omega, by simpa using hR, hq⟩
  rw [hR, hq]
  clear hR hq
  obtain ⟨i0, hi, hz0, hz1, hz2⟩ := info_parts batInfo
  go_enter Tryz.func61, Tryz.ntmps61
  go_wp2_with fail
  go_loopw [4, 5] (fun l i wr => ∃ (L : List BX) (A : Option Addr) (c : Nat) (e : Int), l = .slice A L.length c ∧ i = .int .i64 e ∧ ScanS s W R q A c L e wr) (fun _ i _ => s.size - (intOf i).toNat)
  case atStart => exact ⟨[], none, 0, 0, rfl, rfl, H0.out⟩
  case round =>
    obtain ⟨L, A, c, e, rfl, rfl, hS⟩ := hrel
    have cd := fun w => rdecode5_c s e w hs
    have HG := Lib.hid (fun he (x : BX) A' c' w2 => hS.go (w' := w2) (A' := A') (c' := c') (x := x) he)
    have HE := Lib.hid hS.stop
    have hup := fun h => decG_up (s := s) (p := e) h
    have HS := Lib.hid hS
    have hlo := hS.lo
    have hhi := hS.hi
    clear H0 hS
    generalize (decG s e).1 = b at *
    generalize (decG s e).2.1 = K at *
    generalize (decG s e).2.2.1 = e1 at *
    generalize (decG s e).2.2.2 = e2 at *
    obtain ⟨base, span, prod, epoch, seq⟩ := b
    unfold GotBt bnC at cd
    simp only at cd
    by_cases he : e2 = 0
    · subst he
      have hup := hup rfl
      have HG := Lib.hid (HG.out rfl)
      clear HE
      go_wp2_with fail
      (with_reducible refine (cd _).mono ?_)
      rintro en w1 ⟨X, B, d, hX, rfl, hrow, hb1⟩
      have hsz1 := HS.out.bel.size
      have hal1 : Below w1.heap.size w1 (w1.alloc (.cells #[.int .i64 base, .int .i64 span, .int .i64 prod, .int .i64 epoch, .int .i64 seq, .slice B X.length d] 44)) := (Below.refl _ _).alloc (Nat.le_refl _) _
      have hal2 : Below w1.heap.size w1 ((w1.alloc (.cells #[.int .i64 base, .int .i64 span, .int .i64 prod, .int .i64 epoch, .int .i64 seq, .slice B X.length d] 44)).alloc (.cells #[.int .i64 base, .int .i64 span, .int .i64 prod, .int .i64 epoch, .int .i64 seq, .slice B X.length d] 44)) := hal1.alloc hal1.size _
      have HV2 := Lib.hid (And.intro ((HS.out.row.later hb1).later hal2) (And.intro ((hrow.base hsz1).later hal2) ((HS.out.bel.trans (hb1.mono hsz1)).trans (hal2.mono (Nat.le_trans hsz1 hb1.size)))))
      have hrow2 := HV2.out.1.row
      have hbn := (by
        have := Box.new (w1.alloc (.cells #[.int .i64 base, .int .i64 span, .int .i64 prod, .int .i64 epoch, .int .i64 seq, .slice B X.length d] 44)) 44 (bnC ⟨base, span, prod, epoch, seq⟩ (.slice B X.length d))
        rw [World.size_alloc] at this
        exact this : Box ((w1.alloc (.cells #[.int .i64 base, .int .i64 span, .int .i64 prod, .int .i64 epoch, .int .i64 seq, .slice B X.length d] 44)).alloc (.cells (bnC ⟨base, span, prod, epoch, seq⟩ (.slice B X.length d)) 44)) (w1.heap.size + 1) 44 (bnC ⟨base, span, prod, epoch, seq⟩ (.slice B X.length d)))
      have hnews := news_at hbn
      have hone := bat_one ⟨base, span, prod, epoch, seq⟩ B X.length d
      have hsz2 := HV2.out.2.2.size
      unfold bnC at hnews hone
      simp only at hnews hone
      have HNW := Lib.hid (And.intro hnews hone)
      have HX := Lib.hid hX
      clear hal1 hal2 hbn hnews hone hrow hb1 hX cd
      go_wp2_with (at_builtin; refine wpList_append_own_at _ rfl _ _ 51 rfl W.heap.size 44 i0 _ 6 64 Tryz.underlying51 hi hz0 hz1 hz2 batC_zero (by decide) (.slice A L.length c) L.length (batsC L) rfl hrow2 ⟨w1.heap.size + 1, 0, none⟩ 1 1 [.int .i64 base, .int .i64 span, .int .i64 prod, .int .i64 epoch, .int .i64 seq, .slice B X.length d] rfl rfl HNW.out.1 HNW.out.2 (by unfold maxLen; omega) (by omega) hsz2 ?_)
      intro v' w2 hown' hgrow _ _
      obtain ⟨g', cap', rfl⟩ : ∃ g' cap', v' = .slice (some ⟨g', 0, none⟩) (L.length + 1) cap' := by
        rcases hown'.2 with ⟨_, h0⟩ | ⟨g, cap, cur, hv, _⟩
        · omega
        · exact ⟨g, cap, hv⟩
      have HB2 := Lib.hid (HV2.out.2.2.grown hgrow hsz2 (fun j e => (hrow2.lt j e).1))
      have HR2 := Lib.hid (HV2.out.1.grow (x := (⟨base, span, prod, epoch, seq⟩, X, B, d)) HV2.out.2.1 hown' hgrow)
      clear hown' hgrow hrow2
      go_wp2
      go_roundw
      case rel =>
        refine ⟨L ++ [(⟨base, span, prod, epoch, seq⟩, X, B, d)], some ⟨g', 0, none⟩, cap', e1, ?_, rfl, HG.out trivial _ _ _ _ (by unfold BX.told; rw [HX.out]) HR2.out HB2.out⟩
        rw [show (L ++ [((⟨base, span, prod, epoch, seq⟩, X, B, d) : BX)]).length = L.length + 1 by simp]
      case measure => simp [intOf]; omega
    · have he' : (e2 == 0) = false := by rw [beq_eq_false_iff_ne]; exact he
      have he3 : (e2 != 0) = true := by simpa using he
      have hst := HE.out he
      obtain ⟨hLR, rfl⟩ := hst
      have HLR := Lib.hid hLR
      clear hLR HE HG hup he
      go_wp2_with fail
      (with_reducible refine (cd _).mono ?_)
      rintro en w1 ⟨X, B, d, hX, rfl, hrow, hb1⟩
      have hsz1 := HS.out.bel.size
      have hal1 : Below w1.heap.size w1 (w1.alloc (.cells #[.int .i64 base, .int .i64 span, .int .i64 prod, .int .i64 epoch, .int .i64 seq, .slice B X.length d] 44)) := (Below.refl _ _).alloc (Nat.le_refl _) _
      have HV2 := Lib.hid (And.intro ((HS.out.row.later hb1).later hal1) ((HS.out.bel.trans (hb1.mono hsz1)).trans (hal1.mono (Nat.le_trans hsz1 hb1.size))))
      clear hal1 hb1 hrow hX cd
      go_wp2
      go_ret2
      exact ⟨L, A, c, HLR.out, rfl, HV2.out.1, HV2.out.2⟩
theorem ok_heads {r : Rec} (h : okRec r = true) : r.heads.length ≤ 1000 := by
  obtain ⟨_, _, m1, _⟩ := okRec_parts h
  omega
theorem told_mem {L : List BX} {R : List (BN × List Rec)} (hL : L.map BX.told = R) {x : BX} (hx : x ∈ L) : (x.1, x.2.1.map (·.1)) ∈ R := by
  rw [← hL]
  exact List.mem_map_of_mem (f := BX.told) hx
theorem BtsR.bsinOk {w : World} {base c : Nat} {A : Option Addr} {L : List BX} {R : List (BN × List Rec)} (h : BtsR w base (.slice A L.length c) L) (hL : L.map BX.told = R) (hok : ∀ x ∈ R, ∀ r ∈ x.2, okRec r = true) : BsIn w A L :=
  h.bsin (fun x hx y hy => hok _ (told_mem hL hx) y.1 (List.mem_map_of_mem hy))
end Go.Proofs.YtjnphajkoopkgaaGreatDoor
/- Plain laws of a scan: what stands ahead and behind; what was encoded is scanned; what is cut off is not. No condition. -/
namespace Go.Proofs.YtjnphajkoopkgaaGreatDoor
open Go.RowKit
set_option linter.unusedVariables false
theorem bodyG_inv {s : ByteArray} {p : Int} (h : (bodyG s p).2.2 = 0) : 0 ≤ p ∧ p.toNat + 8 + rd4 s p.toNat ≤ s.size ∧ rd4 s p.toNat ≤ 60000 ∧ sumN (s.extract (p.toNat + 8) (p.toNat + 8 + rd4 s p.toNat)) = rd4 s (p.toNat + 4) := by
  unfold bodyG at h
  by_cases h1 : p < 0 ∨ (s.size : Int) < p
  · rw [if_pos h1] at h; exact absurd h (by decide)
  rw [if_neg h1] at h
  by_cases h2 : s.size < p.toNat + 8
  · rw [if_pos h2] at h; exact absurd h (by decide)
  rw [if_neg h2] at h
  by_cases h3 : 60000 < rd4 s p.toNat
  · rw [if_pos h3] at h; exact absurd h (by decide)
  rw [if_neg h3] at h
  by_cases h4 : s.size < p.toNat + 8 + rd4 s p.toNat
  · rw [if_pos h4] at h; exact absurd h (by decide)
  rw [if_neg h4] at h
  by_cases h5 : sumN (s.extract (p.toNat + 8) (p.toNat + 8 + rd4 s p.toNat)) ≠ rd4 s (p.toNat + 4)
  · rw [if_pos h5] at h; exact absurd h (by decide)
  exact ⟨by omega, by omega, by omega, by simpa using h5⟩
theorem bodyG_mk {s : ByteArray} {p : Int} (h0 : 0 ≤ p) (h1 : p.toNat + 8 + rd4 s p.toNat ≤ s.size) (h2 : rd4 s p.toNat ≤ 60000) (h3 : sumN (s.extract (p.toNat + 8) (p.toNat + 8 + rd4 s p.toNat)) = rd4 s (p.toNat + 4)) :
    bodyG s p = (s.extract (p.toNat + 8) (p.toNat + 8 + rd4 s p.toNat), ((p.toNat + 8 + rd4 s p.toNat : Nat) : Int), 0) := by
  unfold bodyG
  rw [if_neg (by omega), if_neg (by omega), if_neg (by omega), if_neg (by omega), if_neg (by simpa using h3)]
theorem sub_congr {l m : List UInt8} {n a k : Nat} (h : l.take n = m.take n) (hk : a + k ≤ n) : (l.drop a).take k = (m.drop a).take k := by
  have e : ∀ x : List UInt8, (x.drop a).take k = ((x.take n).drop a).take k := fun x => by
    rw [List.drop_take, List.take_take, Nat.min_eq_left (by omega)]
  rw [e l, e m, h]
theorem rd4_congr {s u : ByteArray} {n a : Nat} (h : u.data.toList.take n = s.data.toList.take n) (hk : a + 4 ≤ n) : rd4 u a = rd4 s a := by
  unfold rd4
  rw [sub_congr h hk]
theorem ext_congr {s u : ByteArray} {n i j : Nat} (h : u.data.toList.take n = s.data.toList.take n) (hk : j ≤ n) (hij : i ≤ j) : u.extract i j = s.extract i j := by
  apply ByteArray.ext
  apply Array.ext'
  rw [extract_list, extract_list, sub_congr h (by omega)]
theorem bodyG_pre {s u : ByteArray} {p : Int} {n : Nat} (hu : n ≤ u.size) (h : u.data.toList.take n = s.data.toList.take n) (h0 : (bodyG s p).2.2 = 0) (hq : (bodyG s p).2.1 ≤ n) : bodyG u p = bodyG s p := by
  obtain ⟨a, b, c, d⟩ := bodyG_inv h0
  have e := bodyG_mk a b c d
  rw [e] at hq ⊢
  have hq' : p.toNat + 8 + rd4 s p.toNat ≤ n := by
    have : ((p.toNat + 8 + rd4 s p.toNat : Nat) : Int) ≤ n := hq
    omega
  have e1 : rd4 u p.toNat = rd4 s p.toNat := rd4_congr h (by omega)
  have e2 : rd4 u (p.toNat + 4) = rd4 s (p.toNat + 4) := rd4_congr h (by omega)
  have e3 : u.extract (p.toNat + 8) (p.toNat + 8 + rd4 s p.toNat) = s.extract (p.toNat + 8) (p.toNat + 8 + rd4 s p.toNat) := ext_congr h hq' (by omega)
  rw [bodyG_mk a (by rw [e1]; omega) (by rw [e1]; exact c) (by rw [e1, e2, e3]; exact d), e1, e3]
theorem decG_err' {s : ByteArray} {p e : Int} (h : (bodyG s p).2.2 = e) (he : e ≠ 0) : decG s p = (zeroN, [], 0, e) := by
  unfold decG
  rw [if_pos (by rw [h]; exact he), h]
theorem decG_congr {s u : ByteArray} {p q : Int} (h : bodyG u q = bodyG s p) : decG u q = decG s p := by unfold decG; rw [h]
theorem decG_body {s : ByteArray} {p : Int} (h : (decG s p).2.2.2 = 0) : (bodyG s p).2.2 = 0 ∧ (decG s p).2.2.1 = (bodyG s p).2.1 := by
  unfold decG at h ⊢
  split at h
  · rename_i h1; exact absurd h h1
  · rename_i h1
    rw [if_neg h1]
    split at h
    · rename_i h2
      rw [if_pos h2]
      exact ⟨by simpa using h1, rfl⟩
    · simp at h
theorem decG_pre {s u : ByteArray} {p : Int} {n : Nat} (hu : n ≤ u.size) (h : u.data.toList.take n = s.data.toList.take n) (h0 : (decG s p).2.2.2 = 0) (hq : (decG s p).2.2.1 ≤ n) : decG u p = decG s p := by
  obtain ⟨h1, h2⟩ := decG_body h0
  exact decG_congr (bodyG_pre hu h h1 (by rw [← h2]; exact hq))
/- Behind another text. -/
theorem drop_behind (a t : ByteArray) (p : Nat) : (a ++ t).data.toList.drop (a.size + p) = t.data.toList.drop p := by
  have hl : a.data.toList.length = a.size := rfl
  rw [ByteArray.data_append, Array.toList_append, ← List.drop_drop, List.drop_left' hl]
theorem rd4_behind (a t : ByteArray) (p : Nat) : rd4 (a ++ t) (a.size + p) = rd4 t p := by
  unfold rd4
  rw [drop_behind]
theorem ext_behind (a t : ByteArray) (i j : Nat) : (a ++ t).extract (a.size + i) (a.size + j) = t.extract i j := by
  apply ByteArray.ext
  apply Array.ext'
  rw [extract_list, extract_list, drop_behind, Nat.add_sub_add_left]
theorem decG_behind (a t : ByteArray) (p : Nat) : ((decG t p).2.2.2 = 0 → decG (a ++ t) ((a.size + p : Nat) : Int) = ((decG t p).1, (decG t p).2.1, (a.size : Int) + (decG t p).2.2.1, 0)) ∧ ((decG t p).2.2.2 ≠ 0 → (decG (a ++ t) ((a.size + p : Nat) : Int)).2.2.2 ≠ 0) := by
  have hz : (a ++ t).size = a.size + t.size := ByteArray.size_append
  have hb : bodyG (a ++ t) ((a.size + p : Nat) : Int) = if (bodyG t p).2.2 = 0 then ((bodyG t p).1, (a.size : Int) + (bodyG t p).2.1, 0) else ((bodyG t p).1, (bodyG t p).2.1, (bodyG t p).2.2) := by
    have e1 := rd4_behind a t p
    have e2 := rd4_behind a t (p + 4)
    have e3 := ext_behind a t (p + 8) (p + 8 + rd4 t p)
    rw [← Nat.add_assoc] at e2
    rw [← Nat.add_assoc, ← Nat.add_assoc, ← Nat.add_assoc] at e3
    unfold bodyG
    simp only [Int.toNat_natCast]
    rw [e1, e2, e3, hz]
    by_cases h1 : ((p : Nat) : Int) < 0 ∨ (t.size : Int) < ((p : Nat) : Int)
    · rw [if_pos h1, if_pos (by omega)]; rfl
    rw [if_neg h1, if_neg (by omega)]
    by_cases h2 : t.size < p + 8
    · rw [if_pos h2, if_pos (by omega)]; rfl
    rw [if_neg h2, if_neg (by omega)]
    by_cases h3 : 60000 < rd4 t p
    · rw [if_pos h3, if_pos h3]; rfl
    rw [if_neg h3, if_neg h3]
    by_cases h4 : t.size < p + 8 + rd4 t p
    · rw [if_pos h4, if_pos (by omega)]; rfl
    rw [if_neg h4, if_neg (by omega)]
    by_cases h5 : sumN (t.extract (p + 8) (p + 8 + rd4 t p)) ≠ rd4 t (p + 4)
    · rw [if_pos h5, if_pos h5]; rfl
    rw [if_neg h5, if_neg h5, if_pos rfl]
    refine Prod.ext rfl (Prod.ext ?_ rfl)
    show ((a.size + p + 8 + rd4 t p : Nat) : Int) = (a.size : Int) + ((p + 8 + rd4 t p : Nat) : Int)
    omega
  unfold decG
  rw [hb]
  by_cases h : (bodyG t p).2.2 = 0
  · rw [if_pos h, h]
    simp only [ne_eq, not_true, if_false]
    by_cases hu : unpB (bodyG t p).1 = true
    · simp only [if_pos hu]
      exact ⟨fun _ => trivial, fun h => absurd trivial h⟩
    · simp only [if_neg hu]
      exact ⟨fun h => absurd h (by decide), fun _ => (by decide : (3 : Int) ≠ 0)⟩
  · rw [if_neg h]
    simp only
    rw [if_pos h]
    exact ⟨fun h' => absurd h' h, fun h' => h'⟩
/- A scan. -/
theorem scanG_no {s : ByteArray} {p : Int} (h : (decG s p).2.2.2 ≠ 0) (m : Nat) : scanG s m p = ([], p) := by
  cases m with
  | zero => rfl
  | succ m => unfold scanG; rw [if_pos h]
theorem scanG_yes {s : ByteArray} {p : Int} (h : (decG s p).2.2.2 = 0) (m : Nat) : scanG s (m + 1) p = (((decG s p).1, (decG s p).2.1) :: (scanG s m (decG s p).2.2.1).1, (scanG s m (decG s p).2.2.1).2) := by
  show (if _ then _ else _) = _
  rw [if_neg (by simpa using h)]
theorem scanG_fuel {s : ByteArray} : ∀ (m m' : Nat) (p : Int), 0 ≤ p → s.size < m + p.toNat → s.size < m' + p.toNat → scanG s m p = scanG s m' p
  | m, m', p, h0, hm, hm' => by
    by_cases h : (decG s p).2.2.2 = 0
    · obtain ⟨u0, u1, u2⟩ := decG_up h
      match m, m' with
      | 0, _ => exfalso; omega
      | _ + 1, 0 => exfalso; omega
      | m + 1, m' + 1 =>
        rw [scanG_yes h, scanG_yes h, scanG_fuel m m' (decG s p).2.2.1 (by omega) (by omega) (by omega)]
    · rw [scanG_no h, scanG_no h]
termination_by m => m
theorem scanG_end {s : ByteArray} : ∀ (m : Nat) (p : Int), p ≤ (scanG s m p).2 ∧ (p ≤ s.size → (scanG s m p).2 ≤ s.size)
  | 0, p => ⟨Int.le_refl _, fun h => h⟩
  | m + 1, p => by
    by_cases h : (decG s p).2.2.2 = 0
    · obtain ⟨u0, u1, u2⟩ := decG_up h
      rw [scanG_yes h]
      obtain ⟨i1, i2⟩ := scanG_end (s := s) m (decG s p).2.2.1
      have := i2 u2
      simp only
      omega
    · rw [scanG_no h]
      exact ⟨Int.le_refl _, fun h => h⟩
theorem scanG_join {s u : ByteArray} : ∀ (m : Nat) (p : Int) (M : Nat), 0 ≤ p → (scanG s m p).2.toNat ≤ u.size → u.data.toList.take (scanG s m p).2.toNat = s.data.toList.take (scanG s m p).2.toNat → u.size < M + p.toNat →
    scanG u M p = ((scanG s m p).1 ++ (scanG u M (scanG s m p).2).1, (scanG u M (scanG s m p).2).2)
  | 0, p, M, h0, hn, he, hM => rfl
  | m + 1, p, M, h0, hn, he, hM => by
    by_cases h : (decG s p).2.2.2 = 0
    · obtain ⟨u0, u1, u2⟩ := decG_up h
      rw [scanG_yes h] at hn he ⊢
      simp only at hn he ⊢
      obtain ⟨i1, i2⟩ := scanG_end (s := s) m (decG s p).2.2.1
      have i3 := i2 u2
      have hd : decG u p = decG s p := decG_pre hn he h (by omega)
      have ih := fun M' h1 => scanG_join (s := s) (u := u) m (decG s p).2.2.1 M' (by omega) hn he h1
      have hsz : (decG s p).2.2.1 ≤ u.size := by omega
      match M, hM with
      | 0, hM => exfalso; omega
      | M + 1, hM =>
        rw [scanG_yes (by rw [hd]; exact h), hd, ih M (by omega)]
        rw [scanG_fuel (s := u) M (M + 1) (scanG s m (decG s p).2.2.1).2 (by omega) (by omega) (by omega)]
        rfl
    · rw [scanG_no h]
      simp
theorem scanG_behind (a t : ByteArray) : ∀ (m : Nat) (p : Nat), scanG (a ++ t) m ((a.size + p : Nat) : Int) = ((scanG t m p).1, (a.size : Int) + (scanG t m p).2)
  | 0, p => by
    show (([] : List (BN × List Rec)), _) = _
    refine Prod.ext rfl ?_
    show ((a.size + p : Nat) : Int) = (a.size : Int) + (p : Int)
    omega
  | m + 1, p => by
    obtain ⟨hy, hn⟩ := decG_behind a t p
    by_cases h : (decG t p).2.2.2 = 0
    · obtain ⟨u0, u1, u2⟩ := decG_up h
      have hd := hy h
      rw [scanG_yes h, scanG_yes (by rw [hd]), hd]
      simp only
      obtain ⟨q, hq⟩ : ∃ q : Nat, (decG t p).2.2.1 = q := ⟨(decG t p).2.2.1.toNat, by omega⟩
      rw [hq]
      have := scanG_behind a t m q
      rw [show ((a.size + q : Nat) : Int) = (a.size : Int) + (q : Int) by omega] at this
      rw [this]
    · rw [scanG_no h, scanG_no (hn h)]
      refine Prod.ext rfl ?_
      show ((a.size + p : Nat) : Int) = (a.size : Int) + (p : Int)
      omega
/-- A scan goes on behind whole batches. -/
theorem scanG_on {s t : ByteArray} {R : List (BN × List Rec)} {n : Nat} (h : scanG s (s.size + 1) 0 = (R, (n : Int))) :
    scanG (s.extract 0 n ++ t) ((s.extract 0 n ++ t).size + 1) 0 = (R ++ (scanG t (t.size + 1) 0).1, (n : Int) + (scanG t (t.size + 1) 0).2) := by
  have he := scanG_end (s := s) (s.size + 1) 0
  have h2 : (scanG s (s.size + 1) 0).2 = n := by rw [h]
  have h1 : (scanG s (s.size + 1) 0).1 = R := by rw [h]
  have hn : n ≤ s.size := by have := he.2 (by omega); rw [h2] at this; omega
  have hz : (s.extract 0 n).size = n := by rw [ByteArray.size_extract]; omega
  have hz2 : (s.extract 0 n ++ t).size = n + t.size := by rw [ByteArray.size_append, hz]
  have ht : (s.extract 0 n ++ t).data.toList.take n = s.data.toList.take n := by
    rw [ByteArray.data_append, Array.toList_append, List.take_left' (by show (s.extract 0 n).size = n; exact hz), extract_list]
    simp
  have hj := scanG_join (s := s) (u := s.extract 0 n ++ t) (s.size + 1) 0 ((s.extract 0 n ++ t).size + 1) (by omega) (by rw [h2]; omega) (by rw [h2]; exact ht) (by omega)
  rw [h1, h2] at hj
  rw [hj]
  have hb := scanG_behind (s.extract 0 n) t ((s.extract 0 n ++ t).size + 1) 0
  rw [hz] at hb
  simp only [Nat.add_zero] at hb
  rw [hb, show ((0 : Nat) : Int) = 0 from rfl, scanG_fuel (s := t) ((s.extract 0 n ++ t).size + 1) (t.size + 1) 0 (by omega) (by omega) (by omega)]
/- What was encoded. -/
theorem bv_be4 (n : Nat) (h : n < 4294967296) : bv (be 4 n) = n := by
  have key : ∀ (w n : Nat), n < 256 ^ w → bv (be w n) = n := by
    intro w
    induction w with
    | zero => intro n h; have : n = 0 := by simpa using h
              subst this; rfl
    | succ w ih =>
      intro n h
      rw [be, bv_snoc, ih _ (by rw [Nat.pow_succ] at h; omega)]
      have : (UInt8.ofNat (n % 256)).toNat = n % 256 := ofNat_toNat (Nat.mod_lt _ (by decide))
      omega
  exact key 4 n (by omega)
theorem wrap_body (t r : ByteArray) (h : t.size ≤ 60000) : bodyG (wrapB t ++ r) 0 = (t, ((wrapB t).size : Int), 0) := by
  have hw : (wrapB t).data.toList = be 4 t.size ++ be 4 (sumN t) ++ t.data.toList := by unfold wrapB w4; simp
  have hd : (wrapB t ++ r).data.toList = be 4 t.size ++ (be 4 (sumN t) ++ (t.data.toList ++ r.data.toList)) := by
    rw [ByteArray.data_append, Array.toList_append, hw]
    simp
  have hz : (wrapB t ++ r).size = 8 + t.size + r.size := by rw [ByteArray.size_append, wrapB_size]
  have e0 : rd4 (wrapB t ++ r) 0 = t.size := by
    unfold rd4
    rw [hd, List.drop_zero, List.take_left' (be_len 4 _), bv_be4 _ (by omega)]
  have e4 : rd4 (wrapB t ++ r) (0 + 4) = sumN t := by
    unfold rd4
    rw [hd, List.drop_left' (be_len 4 _), List.take_left' (be_len 4 _), bv_be4 _ (sumN_lt t)]
  have eb : (wrapB t ++ r).extract (0 + 8) (0 + 8 + t.size) = t := by
    apply ByteArray.ext
    apply Array.ext'
    rw [extract_list, hd, ← List.append_assoc, List.drop_left' (by simp [be_len]), List.take_left' (by show t.size = _; omega)]
  have := bodyG_mk (s := wrapB t ++ r) (p := 0) (by omega) (by show 0 + 8 + rd4 (wrapB t ++ r) 0 ≤ _; rw [e0]; omega) (by show rd4 (wrapB t ++ r) 0 ≤ _; rw [e0]; exact h) (by show sumN ((wrapB t ++ r).extract (0 + 8) (0 + 8 + rd4 (wrapB t ++ r) 0)) = rd4 (wrapB t ++ r) (0 + 4); rw [e0, e4, eb])
  rw [this]
  show ((wrapB t ++ r).extract (0 + 8) (0 + 8 + rd4 (wrapB t ++ r) 0), ((0 + 8 + rd4 (wrapB t ++ r) 0 : Nat) : Int), (0 : Int)) = _
  rw [e0, eb, wrapB_size, Nat.zero_add]
theorem wrap_dec {b : BN} {L : List RX} (h : batB b L = true) (r : ByteArray) : decG (encB b L ++ r) 0 = (b, L.map (·.1), ((encB b L).size : Int), 0) := by
  obtain ⟨h1, h2, h3⟩ := unp_back h
  have he : encB b L = wrapB (bodyB b L) := by unfold encB; rw [if_pos h]
  rw [he]
  unfold decG
  rw [wrap_body _ r (batB_size h)]
  simp only [ne_eq, not_true, if_false]
  rw [if_pos h1, h2, h3]
theorem encB_size {b : BN} {L : List RX} (h : batB b L = true) : 8 ≤ (encB b L).size ∧ (encB b L).size ≤ 60008 := by
  have he : encB b L = wrapB (bodyB b L) := by unfold encB; rw [if_pos h]
  rw [he, wrapB_size]
  have := batB_size h
  omega
theorem dec_short {s : ByteArray} {p : Int} (h : (s.size : Int) < p + 8) : (decG s p).2.2.2 ≠ 0 := fun e => by
  obtain ⟨u0, u1, u2⟩ := decG_up e
  omega
theorem scan_enc {s : ByteArray} {R : List (BN × List Rec)} (h : scanG s (s.size + 1) 0 = (R, (s.size : Int))) {b : BN} {L : List RX} (hb : batB b L = true) :
    scanG (s ++ encB b L) ((s ++ encB b L).size + 1) 0 = (R ++ [(b, L.map (·.1))], ((s ++ encB b L).size : Int)) := by
  have ho := scanG_on (t := encB b L) h
  rw [show s.extract 0 s.size = s by simp] at ho
  rw [ho]
  have hd := wrap_dec hb ByteArray.empty
  rw [ByteArray.append_empty] at hd
  have hs : scanG (encB b L) ((encB b L).size + 1) 0 = ([(b, L.map (·.1))], ((encB b L).size : Int)) := by
    rw [scanG_yes (by rw [hd]), hd]
    simp only
    rw [scanG_no (dec_short (by omega))]
  rw [hs, ByteArray.size_append]
  simp
theorem wrap_cut {t : ByteArray} {k : Nat} (h : t.size ≤ 60000) (hk : k < (wrapB t).size) : (bodyG ((wrapB t).extract 0 k) 0).2.2 ≠ 0 := fun e => by
  obtain ⟨a, b, c, d⟩ := bodyG_inv e
  rw [wrapB_size] at hk
  have hz : ((wrapB t).extract 0 k).size = k := by rw [ByteArray.size_extract, wrapB_size]; omega
  rw [hz] at b
  change 0 + 8 + rd4 ((wrapB t).extract 0 k) 0 ≤ k at b
  have e0 : rd4 ((wrapB t).extract 0 k) 0 = t.size := by
    have hw : (wrapB t).data.toList = be 4 t.size ++ (be 4 (sumN t) ++ t.data.toList) := by unfold wrapB w4; simp
    unfold rd4
    rw [List.drop_zero, extract_list, List.drop_zero, List.take_take, Nat.min_eq_left (by omega), hw, List.take_left' (be_len 4 _), bv_be4 _ (by omega)]
  omega
theorem scan_cut {s : ByteArray} {R : List (BN × List Rec)} (h : scanG s (s.size + 1) 0 = (R, (s.size : Int))) {b : BN} {L : List RX} (hb : batB b L = true) {k : Nat} (hk : k < (encB b L).size) :
    scanG (s ++ (encB b L).extract 0 k) ((s ++ (encB b L).extract 0 k).size + 1) 0 = (R, (s.size : Int)) := by
  have ho := scanG_on (t := (encB b L).extract 0 k) h
  rw [show s.extract 0 s.size = s by simp] at ho
  rw [ho]
  have he : encB b L = wrapB (bodyB b L) := by unfold encB; rw [if_pos hb]
  have hn : (decG ((encB b L).extract 0 k) 0).2.2.2 ≠ 0 := by
    rw [he] at hk ⊢
    have hc := wrap_cut (batB_size hb) hk
    rw [decG_err' rfl hc]
    exact hc
  rw [scanG_no hn]
  simp
end Go.Proofs.YtjnphajkoopkgaaGreatDoor
/- The law BatchJoined walks to true. Condition: the table of sums. -/
namespace Go.Proofs.YtjnphajkoopkgaaGreatDoor
open Go.RowKit
set_option linter.unusedVariables false
/-- A row of batches whose records are somewhere. -/
theorem row_bsin {w : World} {base c : Nat} {A : Option Addr} {L : List BX} (hrow : w.ownsRow base 44 6 (.slice A L.length c) L.length (batsC L)) (hr : ∀ x ∈ L, RsIn w x.2.2.1 x.2.1) : BsIn w A L := fun hp => by
  rcases hrow.2 with ⟨hv, h0⟩ | ⟨g, cap, cur, hv, hg, hh, h4, h5, h6, h7⟩
  · omega
  · injection hv with e1 _ _
    refine ⟨g, 0, e1, lt_of_there hh, fun j x hx => ?_⟩
    have hj : j < L.length := (List.getElem?_eq_some_iff.1 hx).1
    have k : ∀ i, i < 6 → w.cell? ⟨g, 0 + j * 6 + i, none⟩ = (batsC L)[j * 6 + i]? := fun i hi => by
      subst e1
      have := hrow.cellAt (j * 6 + i) (by omega)
      rw [show 0 + j * 6 + i = j * 6 + i by omega]
      exact this
    have k2 : ∀ i, i < 6 → (batsC L)[j * 6 + i]? = (bnC x.1 (.slice x.2.2.1 x.2.1.length x.2.2.2))[i]? := fun i hi => batsC_at hx hi
    refine ⟨⟨?_, ?_, ?_, ?_, ?_, ?_⟩, hr x (List.mem_of_getElem? hx)⟩
    · exact (k 0 (by decide)).trans ((k2 0 (by decide)).trans rfl)
    · exact (k 1 (by decide)).trans ((k2 1 (by decide)).trans rfl)
    · exact (k 2 (by decide)).trans ((k2 2 (by decide)).trans rfl)
    · exact (k 3 (by decide)).trans ((k2 3 (by decide)).trans rfl)
    · exact (k 4 (by decide)).trans ((k2 4 (by decide)).trans rfl)
    · exact (k 5 (by decide)).trans ((k2 5 (by decide)).trans rfl)
theorem BtsR.base {w : World} {base base' : Nat} {v : Value} {L : List BX} (h : BtsR w base v L) (hb : base' ≤ base) : BtsR w base' v L := ⟨own_base h.row hb, fun x hx => (h.recs x hx).base hb⟩
theorem own_room {w : World} {base t size n : Nat} {v : Value} {xs : List Value} (h : w.ownsRow base t size v n xs) : v = .slice none 0 0 ∨ ∃ a n m, v = .slice (some a) n m ∧ n ≤ m := by
  rcases h.2 with ⟨hv, _⟩ | ⟨g, cap', cur, hv, hg, hh, h4, h5, h6, h7⟩
  · exact .inl hv
  · exact .inr ⟨_, _, _, hv, h4⟩
theorem wpList_append_run {P : Program} {w w' : World} {ops : Array Oper} {rest : List Oper} {o : Oper} {a : Act} {Q : Exit → Act → World → Prop} (hgd : o.guard = none) (s x : Operand) (t : TypeId) (ho : o.op = .call { callee := .builtin .append, args := #[s, x], argTypes := #[t, t] })
    (v u v' : Value) (hs : a.eval s = v) (hx : a.eval x = u) (hr : (Builtin.append_ #[t, t] o.type #[v, u]).run P w = .ok v' w') (h : wpList P ops Q rest (a.put o.dst v') w') : wpList P ops Q (o :: rest) a w := by
  refine wpList_plain hgd fun K hK => ?_
  unfold Oper.wp execOp
  simp only [ho, resolve, invoke, builtin, Sem.run_bind, Sem.run_pure, Result.andThen_ok, List.map_toArray, List.map_cons, List.map_nil, hs, hx, hr]
  exact hK _ _ h
/-- Two lists of batches of the call's own, one behind the other. -/
structure Jn (W : World) (La Lb Lc : List BX) (Ac : Option Addr) (cc : Nat) (w : World) : Prop where
  ra : ∀ x ∈ La, RowR w W.heap.size (.slice x.2.2.1 x.2.1.length x.2.2.2) x.2.1
  rb : ∀ x ∈ Lb, RowR w W.heap.size (.slice x.2.2.1 x.2.1.length x.2.2.2) x.2.1
  rc : BtsR w W.heap.size (.slice Ac Lc.length cc) Lc
  bel : Below W.heap.size W w
theorem Jn.grown {W w w' : World} {La Lb Lc : List BX} {Ac : Option Addr} {cc n : Nat} {v : Value} {xs : List Value} (h : Jn W La Lb Lc Ac cc w) (ho : w.ownsRow W.heap.size 44 6 v n xs) (hg : w.grownBy w' v.ownBlock)
    (hne : ∀ k, (Value.slice Ac Lc.length cc).ownBlock = some k → v.ownBlock ≠ some k) : Jn W La Lb Lc Ac cc w' := by
  refine ⟨fun x hx => (h.ra x hx).kept ho hg, fun x hx => (h.rb x hx).kept ho hg, ⟨?_, fun x hx => (h.rc.recs x hx).kept ho hg⟩, h.bel.grown hg h.bel.size (fun j e => (ho.lt j e).1)⟩
  exact own_off h.rc.row ((Off.refl (fun k => v.ownBlock = some k) w).grown hg (fun k e _ => e)) (fun k e => hne k e)
end Go.Proofs.YtjnphajkoopkgaaGreatDoor
