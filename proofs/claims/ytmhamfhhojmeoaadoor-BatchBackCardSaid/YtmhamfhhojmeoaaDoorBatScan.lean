/- The program's Scan: rows of batches in memory; the walk. Condition: the table of sums. -/
import Derived.Test.YtmhamfhhojmeoaaDoorBatDec
namespace Go.Proofs.YtmhamfhhojmeoaaDoor
open Go.RowKit
set_option linter.unusedVariables false
/-- A batch and where its records lie. -/
abbrev BX := BN × List RX × Option Addr × Nat
def batsC (L : List BX) : List Value := L.flatMap fun x => (bnC x.1 (.slice x.2.2.1 x.2.1.length x.2.2.2)).toList
theorem batsC_snoc (L : List BX) (x : BX) : batsC (L ++ [x]) = batsC L ++ (bnC x.1 (.slice x.2.2.1 x.2.1.length x.2.2.2)).toList := by simp [batsC]
/-- What a batch holds. -/
def BX.told (x : BX) : BN × List Rec := (x.1, x.2.1.map (·.1))
/-- Batches in memory of the call's own. -/
structure BtsR (w : World) (base : Nat) (v : Value) (L : List BX) : Prop where
  row : w.ownsRow base 24 6 v L.length (batsC L)
  recs : ∀ x ∈ L, RowR w base (.slice x.2.2.1 x.2.1.length x.2.2.2) x.2.1
section
variable {w w' : World} {base : Nat} {v : Value} {L : List BX}
theorem BtsR.nil (w : World) (base : Nat) : BtsR w base (.slice none 0 0) [] := ⟨World.ownsRow_nil _ _ _ _, fun x hx => by cases hx⟩
theorem BtsR.later (h : BtsR w base v L) (hb : Below w.heap.size w w') : BtsR w' base v L := ⟨own_below h.row hb, fun x hx => (h.recs x hx).later hb⟩
theorem RowR.kept {v' : Value} {K : List RX} {n : Nat} {xs : List Value} (h : RowR w base v' K) (ho : w.ownsRow base 24 6 v n xs) (hg : w.grownBy w' v.ownBlock) : RowR w' base v' K :=
  ⟨h.row.kept hg (own_two h.row ho (by decide)), fun y hy => (h.heads y hy).kept hg (own_two (h.heads y hy) ho (by decide))⟩
theorem BtsR.grow {v' : Value} {x : BX} (h : BtsR w base v L) (hh : RowR w base (.slice x.2.2.1 x.2.1.length x.2.2.2) x.2.1)
    (ho : w'.ownsRow base 24 6 v' (L.length + 1) (batsC L ++ (bnC x.1 (.slice x.2.2.1 x.2.1.length x.2.2.2)).toList)) (hg : w.grownBy w' v.ownBlock) : BtsR w' base v' (L ++ [x]) := by
  refine ⟨by rw [batsC_snoc, List.length_append]; exact ho, fun y hy => ?_⟩
  rw [List.mem_append] at hy
  rcases hy with hy | hy
  · exact (h.recs y hy).kept h.row hg
  · simp at hy
    subst hy
    exact hh.kept h.row hg
end
theorem batInfo : (Tryd.prog.info? 24).map (fun i => (i.zero, i.size, i.bytes)) = some (some (.agg #[.int .i64 0, .int .i64 0, .int .i64 0, .int .i64 0, .int .i64 0, .slice none 0 0]), 6, 64) := by kernel_rfl
theorem bat_one (b : BN) (A : Option Addr) (n c : Nat) : ∀ u ∈ (bnC b (.slice A n c)).toList, u.oneCell' = true := by
  intro u hu
  unfold bnC at hu
  simp at hu
  rcases hu with rfl | rfl | rfl | rfl | rfl | rfl <;> rfl
theorem batC_zero : (Value.agg #[.int .i64 0, .int .i64 0, .int .i64 0, .int .i64 0, .int .i64 0, .slice none 0 0]).cells.size = 6 := rfl
/-- What Scan says: how often, at most `n` times, from a place on. -/
def scanG (s : ByteArray) : Nat → Int → List (BN × List Rec) × Int
  | 0, p => ([], p)
  | n + 1, p => if (decG s p).2.2.2 ≠ 0 then ([], p) else (((decG s p).1, (decG s p).2.1) :: (scanG s n (decG s p).2.2.1).1, (scanG s n (decG s p).2.2.1).2)
theorem bodyG_up {s : ByteArray} {p : Int} (h : (bodyG s p).2.2 = 0) : 0 ≤ p ∧ p + 8 ≤ (bodyG s p).2.1 ∧ (bodyG s p).2.1 ≤ s.size := by
  unfold bodyG at h ⊢
  by_cases h1 : p < 0 ∨ (s.size : Int) < p
  · rw [if_pos h1] at h; exact absurd h (by decide)
  rw [if_neg h1] at h ⊢
  by_cases h2 : s.size < p.toNat + 8
  · rw [if_pos h2] at h; exact absurd h (by decide)
  rw [if_neg h2] at h ⊢
  by_cases h3 : 60000 < rd4 s p.toNat
  · rw [if_pos h3] at h; exact absurd h (by decide)
  rw [if_neg h3] at h ⊢
  by_cases h4 : s.size < p.toNat + 8 + rd4 s p.toNat
  · rw [if_pos h4] at h; exact absurd h (by decide)
  rw [if_neg h4] at h ⊢
  by_cases h5 : sumN (s.extract (p.toNat + 8) (p.toNat + 8 + rd4 s p.toNat)) ≠ rd4 s (p.toNat + 4)
  · rw [if_pos h5] at h; exact absurd h (by decide)
  rw [if_neg h5] at h ⊢
  show 0 ≤ p ∧ p + 8 ≤ ((p.toNat + 8 + rd4 s p.toNat : Nat) : Int) ∧ ((p.toNat + 8 + rd4 s p.toNat : Nat) : Int) ≤ s.size
  omega
theorem decG_up {s : ByteArray} {p : Int} (h : (decG s p).2.2.2 = 0) : 0 ≤ p ∧ p + 8 ≤ (decG s p).2.2.1 ∧ (decG s p).2.2.1 ≤ s.size := by
  unfold decG at h ⊢
  split at h
  · rename_i h1; exact absurd h h1
  · rename_i h1
    rw [if_neg h1]
    split at h
    · rename_i h2
      rw [if_pos h2]
      exact bodyG_up (by simpa using h1)
    · simp at h
/-- What Scan leaves. -/
def GotSc (W : World) (R : List (BN × List Rec)) (q : Int) (en : Ending) (w' : World) : Prop :=
  ∃ (L : List BX) (A : Option Addr) (c : Nat), L.map BX.told = R ∧ en = .returned (.tuple #[.slice A L.length c, .int .i64 q]) ∧ BtsR w' W.heap.size (.slice A L.length c) L ∧ Below W.heap.size W w'
/-- Where the scan stands. -/
structure ScanS (s : ByteArray) (W : World) (R : List (BN × List Rec)) (q : Int) (A : Option Addr) (c : Nat) (L : List BX) (e : Int) (w : World) : Prop where
  row : BtsR w W.heap.size (.slice A L.length c) L
  bel : Below W.heap.size W w
  lo : 8 * (L.length : Int) ≤ e
  hi : e ≤ s.size
  goes : ∃ m, s.size < m + e.toNat ∧ L.map BX.told ++ (scanG s m e).1 = R ∧ (scanG s m e).2 = q
theorem ScanS.stop {s : ByteArray} {W w : World} {R : List (BN × List Rec)} {q : Int} {A : Option Addr} {c : Nat} {L : List BX} {e : Int} (h : ScanS s W R q A c L e w) (he : (decG s e).2.2.2 ≠ 0) : L.map BX.told = R ∧ e = q := by
  obtain ⟨m, hm, hR, hq⟩ := h.goes
  cases m with
  | zero => have := h.hi; omega
  | succ m =>
    unfold scanG at hR hq
    rw [if_pos he] at hR hq
    exact ⟨by simpa using hR, hq⟩
theorem ScanS.go {s : ByteArray} {W w w' : World} {R : List (BN × List Rec)} {q : Int} {A A' : Option Addr} {c c' : Nat} {L : List BX} {e : Int} {x : BX} (h : ScanS s W R q A c L e w) (he : (decG s e).2.2.2 = 0)
    (hx : x.told = ((decG s e).1, (decG s e).2.1)) (hr : BtsR w' W.heap.size (.slice A' (L.length + 1) c') (L ++ [x])) (hb : Below W.heap.size W w') : ScanS s W R q A' c' (L ++ [x]) (decG s e).2.2.1 w' := by
  have hu := decG_up he
  have h1 := h.lo
  refine ⟨by rw [List.length_append]; exact hr, hb, by rw [List.length_append]; simp; omega, hu.2.2, ?_⟩
  obtain ⟨m, hm, hR, hq⟩ := h.goes
  cases m with
  | zero => have := h.hi; omega
  | succ m =>
    refine ⟨m, by omega, ?_, ?_⟩
    · rw [← hR]
      have e1 : scanG s (m + 1) e = (((decG s e).1, (decG s e).2.1) :: (scanG s m (decG s e).2.2.1).1, (scanG s m (decG s e).2.2.1).2) := by
        show (if _ then _ else _) = _
        rw [if_neg (by simpa using he)]
      rw [e1, List.map_append, List.append_assoc]
      simp [hx]
    · rw [← hq]
      show _ = (if _ then _ else _ : List (BN × List Rec) × Int).2
      rw [if_neg (by simpa using he)]
def ScanJ (s : ByteArray) (R : List (BN × List Rec)) (q : Int) (W : World) (a' : Act) (w' : World) : Prop :=
  ∃ (L : List BX) (A : Option Addr) (c : Nat) (e : Int) (u1 u6 u7 u8 u9 u10 u11 u12 u13 u14 u15 u16 u17 u18 u19 u20 u21 u22 u23 u24 : Value), a' = ⟨#[.string s, u1, .slice none 0 0, .int .i64 0, .slice A L.length c, .int .i64 e, u6, u7, u8, u9, u10, u11, u12, u13, u14, u15, u16, u17, u18, u19, u20, u21, u22, u23, u24], []⟩ ∧ ScanS s W R q A c L e w'
set_option maxHeartbeats 16000000 in
set_option maxRecDepth 100000 in
theorem pscan_c (s : ByteArray) (W : World) (hs : s.size ≤ 1000000) (hT : Tab W) :
    Calls Tryd.prog 19 #[.string s] W (GotSc W (scanG s (s.size + 1) 0).1 (scanG s (s.size + 1) 0).2) := by
  obtain ⟨R, hR⟩ : ∃ R, (scanG s (s.size + 1) 0).1 = R := ⟨_, rfl⟩
  obtain ⟨q, hq⟩ : ∃ q, (scanG s (s.size + 1) 0).2 = q := ⟨_, rfl⟩
  have H0 : Hid (ScanS s W R q none 0 [] 0 W) := Lib.hid ⟨BtsR.nil _ _, Below.refl _ _, by simp, by omega, s.size + 1, by omega, by simpa using hR, hq⟩
  rw [hR, hq]
  clear hR hq
  obtain ⟨i0, hi, hz0, hz1, hz2⟩ := info_parts batInfo
  go_enter Tryd.func19, Tryd.ntmps19
  go_wp2_with fail
  refine wp_scope_label 0 (ScanJ s R q W) (fun a' _ => s.size - (intOf (a'.tmps.getD 5 undef)).toNat) rfl ?_ ?_
  · rintro a' w' ⟨L, A, c, e, u1, u6, u7, u8, u9, u10, u11, u12, u13, u14, u15, u16, u17, u18, u19, u20, u21, u22, u23, u24, rfl, hS⟩
    have cd := pdecode5_c s e w' (by omega) (hT.below hS.bel)
    have HG := Lib.hid (fun he (x : BX) A' c' w2 => hS.go (w' := w2) (A' := A') (c' := c') (x := x) he)
    have HE := Lib.hid hS.stop
    have hup := fun h => decG_up (s := s) (p := e) h
    have HS := Lib.hid hS
    have hlo := hS.lo
    have hhi := hS.hi
    clear H0 hS
    generalize (decG s e).1 = b at *
    generalize (decG s e).2.1 = K at *
    generalize (decG s e).2.2.1 = e1 at *
    generalize (decG s e).2.2.2 = e2 at *
    obtain ⟨base, span, prod, epoch, seq⟩ := b
    unfold GotBt bnC at cd
    simp only at cd
    by_cases he : e2 = 0
    · subst he
      have hup := hup rfl
      have HG := Lib.hid (HG.out rfl)
      clear HE
      go_wp2_with fail
      (with_reducible refine cd.mono ?_)
      rintro en w1 ⟨X, B, d, hX, rfl, hrow, hb1⟩
      have hsz1 := HS.out.bel.size
      have hal1 : Below w1.heap.size w1 (w1.alloc (.cells #[.int .i64 base, .int .i64 span, .int .i64 prod, .int .i64 epoch, .int .i64 seq, .slice B X.length d] 24)) := (Below.refl _ _).alloc (Nat.le_refl _) _
      have hal2 : Below w1.heap.size w1 ((w1.alloc (.cells #[.int .i64 base, .int .i64 span, .int .i64 prod, .int .i64 epoch, .int .i64 seq, .slice B X.length d] 24)).alloc (.cells #[.int .i64 base, .int .i64 span, .int .i64 prod, .int .i64 epoch, .int .i64 seq, .slice B X.length d] 24)) := hal1.alloc hal1.size _
      have HV2 := Lib.hid (And.intro ((HS.out.row.later hb1).later hal2) (And.intro ((hrow.base hsz1).later hal2) ((HS.out.bel.trans (hb1.mono hsz1)).trans (hal2.mono (Nat.le_trans hsz1 hb1.size)))))
      have hrow2 := HV2.out.1.row
      have hbn := (by
        have := Box.new (w1.alloc (.cells #[.int .i64 base, .int .i64 span, .int .i64 prod, .int .i64 epoch, .int .i64 seq, .slice B X.length d] 24)) 24 (bnC ⟨base, span, prod, epoch, seq⟩ (.slice B X.length d))
        rw [World.size_alloc] at this
        exact this : Box ((w1.alloc (.cells #[.int .i64 base, .int .i64 span, .int .i64 prod, .int .i64 epoch, .int .i64 seq, .slice B X.length d] 24)).alloc (.cells (bnC ⟨base, span, prod, epoch, seq⟩ (.slice B X.length d)) 24)) (w1.heap.size + 1) 24 (bnC ⟨base, span, prod, epoch, seq⟩ (.slice B X.length d)))
      have hnews := news_at hbn
      have hone := bat_one ⟨base, span, prod, epoch, seq⟩ B X.length d
      have hsz2 := HV2.out.2.2.size
      unfold bnC at hnews hone
      simp only at hnews hone
      have HNW := Lib.hid (And.intro hnews hone)
      have HX := Lib.hid hX
      clear hal1 hal2 hbn hnews hone hrow hb1 hX cd
      go_wp2_with (at_builtin; refine wpList_append_own_at _ rfl _ _ 36 rfl W.heap.size 24 i0 _ 6 64 Tryd.underlying36 hi hz0 hz1 hz2 batC_zero (by decide) (.slice A L.length c) L.length (batsC L) rfl hrow2 ⟨w1.heap.size + 1, 0, none⟩ 1 1 [.int .i64 base, .int .i64 span, .int .i64 prod, .int .i64 epoch, .int .i64 seq, .slice B X.length d] rfl rfl HNW.out.1 HNW.out.2 (by unfold maxLen; omega) (by omega) hsz2 ?_)
      intro v' w2 hown' hgrow _ _
      obtain ⟨g', cap', rfl⟩ : ∃ g' cap', v' = .slice (some ⟨g', 0, none⟩) (L.length + 1) cap' := by
        rcases hown'.2 with ⟨_, h0⟩ | ⟨g, cap, cur, hv, _⟩
        · omega
        · exact ⟨g, cap, hv⟩
      have HB2 := Lib.hid (HV2.out.2.2.grown hgrow hsz2 (fun j e => (hrow2.lt j e).1))
      have HR2 := Lib.hid (HV2.out.1.grow (x := (⟨base, span, prod, epoch, seq⟩, X, B, d)) HV2.out.2.1 hown' hgrow)
      clear hown' hgrow hrow2
      go_wp2
      go_step3
      refine ⟨rfl, ?_, ?_⟩
      · refine ⟨L ++ [(⟨base, span, prod, epoch, seq⟩, X, B, d)], some ⟨g', 0, none⟩, cap', e1, ?_⟩
        rw [show (L ++ [((⟨base, span, prod, epoch, seq⟩, X, B, d) : BX)]).length = L.length + 1 by simp]
        repeat apply Exists.intro
        exact ⟨rfl, HG.out trivial _ _ _ _ (by unfold BX.told; rw [HX.out]) HR2.out HB2.out⟩
      · show s.size - e1.toNat < s.size - e.toNat
        omega
    · have he' : (e2 == 0) = false := by rw [beq_eq_false_iff_ne]; exact he
      have hst := HE.out he
      obtain ⟨hLR, rfl⟩ := hst
      have HLR := Lib.hid hLR
      clear hLR HE HG hup he
      go_wp2_with fail
      (with_reducible refine cd.mono ?_)
      rintro en w1 ⟨X, B, d, hX, rfl, hrow, hb1⟩
      have hsz1 := HS.out.bel.size
      have hal1 : Below w1.heap.size w1 (w1.alloc (.cells #[.int .i64 base, .int .i64 span, .int .i64 prod, .int .i64 epoch, .int .i64 seq, .slice B X.length d] 24)) := (Below.refl _ _).alloc (Nat.le_refl _) _
      have HV2 := Lib.hid (And.intro ((HS.out.row.later hb1).later hal1) ((HS.out.bel.trans (hb1.mono hsz1)).trans (hal1.mono (Nat.le_trans hsz1 hb1.size))))
      clear hal1 hb1 hrow hX cd
      go_wp2
      simp only [Exit.jump]
      go_wp2
      go_ret2
      refine ⟨L, A, c, HLR.out, ?_, HV2.out.1, HV2.out.2⟩
      rfl
  · intro hgo
    go_wp2
    rename_i hK
    refine wp_label (hK _ _ (hgo _ _ ?_))
    refine ⟨[], none, 0, 0, ?_⟩
    repeat apply Exists.intro
    exact ⟨rfl, H0.out⟩
end Go.Proofs.YtmhamfhhojmeoaaDoor
