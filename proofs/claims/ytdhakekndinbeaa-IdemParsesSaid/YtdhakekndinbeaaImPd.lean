/- idem: the reader's producer, by a contract. No condition. -/
import Derived.Test.YtdhakekndinbeaaImSe
namespace Go.Proofs.Ytdhakekndinbeaa
open Go.RowKit
set_option linter.unusedVariables false
def stI (s : ByteArray) (t : HE × Int × Int) : HE × Int × Int := (t.1.more (seI s t.2.1 t.2.2).1, (seI s t.2.1 t.2.2).2)
def itI (s : ByteArray) (t : HE × Int × Int) : Nat → HE × Int × Int
  | 0 => t
  | k + 1 => stI s (itI s t k)
/-- One that is read, in the block g; the place; the error. -/
def pdI (s : ByteArray) (q e : Int) (g : Nat) : HE × Int × Int :=
  itI s (⟨0, g, (nuI s 0 32768 q e).1, zeroR, 0, 0⟩, (nuI s 1 5 (nuI s 0 32768 q e).2.1 (nuI s 0 32768 q e).2.2).2) (nuI s 1 5 (nuI s 0 32768 q e).2.1 (nuI s 0 32768 q e).2.2).1.toNat
def GotPd (W : World) (b : Nat) (s : ByteArray) (q e : Int) (en : Ending) (w' : World) : Prop :=
  ∃ g, en = .returned (.pointer (some ⟨g, 0, none⟩)) ∧ W.heap.size ≤ g ∧ PrIs w' g (nuI s 0 32768 q e).1 (pdI s q e g).1.R (pdI s q e g).1.f (pdI s q e g).1.c ∧ Box w' b 79 (rdC s (pdI s q e g).2.1 (pdI s q e g).2.2) ∧ Off (· = b) W w'
theorem nuI_bound (s : ByteArray) (q e : Int) : 0 ≤ (nuI s 1 5 q e).1 ∧ (nuI s 1 5 q e).1 ≤ 5 := by
  unfold nuI
  split
  · split
    · split
      · rename_i h
        unfold witB at h
        simp only [Bool.and_eq_true, decide_eq_true_eq] at h
        exact ⟨by simp only; omega, by simp only; omega⟩
      · exact ⟨Int.le_refl 0, by show (0 : Int) ≤ 5; decide⟩
    · exact ⟨Int.le_refl 0, by show (0 : Int) ≤ 5; decide⟩
  · exact ⟨Int.le_refl 0, by show (0 : Int) ≤ 5; decide⟩
set_option maxHeartbeats 8000000 in
set_option maxRecDepth 100000 in
theorem producer_c (b : Nat) (s : ByteArray) (q e : Int) (W : World) (h : Box W b 79 (rdC s q e)) (hs : s.size ≤ 1152921504606846976) :
    Calls Try.prog 44 #[.pointer (some ⟨b, 0, none⟩)] W (GotPd W b s q e) := by
  unfold GotPd pdI
  have hn := nuI_bound s (nuI s 0 32768 q e).2.1 (nuI s 0 32768 q e).2.2
  have k1 := fun w hw => inum_c b s q e 0 32768 w hw hs
  generalize nuI s 0 32768 q e = r1 at *
  obtain ⟨E, p1, e1⟩ := r1
  simp only at hn k1 ⊢
  have k2 := fun w hw => inum_c b s p1 e1 1 5 w hw hs
  generalize nuI s 1 5 p1 e1 = r2 at *
  obtain ⟨n, p2, e2⟩ := r2
  simp only at hn k2 ⊢
  obtain ⟨N, rfl⟩ : ∃ N : Nat, n = N := ⟨n.toNat, by omega⟩
  rw [Int.toNat_natCast]
  have hN : N ≤ 5 := by omega
  clear hn
  have hlt := h.lt
  have H0 := Lib.hid h
  clear h
  go_enter Try.func44, Try.ntmps44
  go_wp2_with fail
  with_reducible refine (k1 _ H0.out).mono ?_
  rintro en w1 ⟨rfl, hx1, ho1⟩
  have hBn : Below w1.heap.size w1 (w1.alloc (.cells (prC E zeroR 0 0) 67)) := (Below.refl _ _).alloc (Nat.le_refl _) _
  have HP : Hid (PrIs (w1.alloc (.cells (prC E zeroR 0 0) 67)) w1.heap.size E zeroR 0 0) := Lib.hid ⟨Box.new _ _ _, by decide, by decide⟩
  have HX := Lib.hid (hx1.later hBn)
  have HO := Lib.hid (ho1.trans (Off.of_below (fun k => k = b) hBn) (fun i hi h => h))
  have hb1 : b ≠ w1.heap.size := Nat.ne_of_lt hx1.lt
  have HZ := Lib.hid ho1.size
  clear hx1 ho1 hBn
  rw [show prC E zeroR 0 0 = zC E from rfl] at HP HX HO
  unfold zC at HP HX HO
  go_wp2_with fail
  with_reducible refine (k2 _ HX.out).mono ?_
  rintro en w2 ⟨rfl, hx2, ho2⟩
  have HP2 := Lib.hid (show PrIs w2 w1.heap.size E zeroR 0 0 from ⟨HP.out.box.off ho2 (fun e => hb1 e.symm), HP.out.f5, HP.out.c5⟩)
  have HO2 := Lib.hid (HO.out.trans ho2 (fun i hi h => h))
  have HX2 := Lib.hid hx2
  clear hx2 ho2 HP HX HO
  generalize w1.heap.size = g at *
  go_wp2_with fail
  go_loopw [10] (fun j wr => ∃ k : Nat, j = .int .i64 k ∧ k ≤ N ∧ PrIs wr g E (itI s (⟨0, g, E, zeroR, 0, 0⟩, p2, e2) k).1.R (itI s (⟨0, g, E, zeroR, 0, 0⟩, p2, e2) k).1.f (itI s (⟨0, g, E, zeroR, 0, 0⟩, p2, e2) k).1.c ∧ Box wr b 79 (rdC s (itI s (⟨0, g, E, zeroR, 0, 0⟩, p2, e2) k).2.1 (itI s (⟨0, g, E, zeroR, 0, 0⟩, p2, e2) k).2.2) ∧ Off (fun y => y = b) W wr) (fun j _ => N - (intOf j).toNat)
  case atStart => exact ⟨0, rfl, Nat.zero_le _, HP2.out, HX2.out, HO2.out⟩
  case round =>
    obtain ⟨k, rfl, hk, hp, hx, ho⟩ := hrel
    have HP := Lib.hid hp
    have HX := Lib.hid hx
    have HO := Lib.hid ho
    clear hp hx ho HP2 HX2 HO2 k1 k2 H0
    by_cases hk2 : k < N
    · have hst : itI s (⟨0, g, E, zeroR, 0, 0⟩, p2, e2) (k + 1) = stI s (itI s (⟨0, g, E, zeroR, 0, 0⟩, p2, e2) k) := rfl
      have HST := Lib.hid hst
      clear hst
      generalize itI s (⟨0, g, E, zeroR, 0, 0⟩, p2, e2) k = t at *
      obtain ⟨x, q', e'⟩ := t
      unfold stI at HST
      simp only at HP HX HST
      have cs := fun w (hb : Below wr.heap.size wr w) => sent_c b s q' e' w (HX.out.later hb) hs
      generalize seI s q' e' = r3 at *
      obtain ⟨S, q3, e3⟩ := r3
      simp only at cs HST
      have ca := fun w (hp : PrIs w g E x.R x.f x.c) => add_c g E x.R x.f x.c S w hp
      unfold snV at cs ca
      have hgl := HP.out.box.lt
      have hgb : ¬ g = b := fun e => hb1 e.symm
      go_wp2_with fail
      go_region_held3 (fun w => g < w.heap.size) (first | exact hgl | exact hp4.box.lt | exact hp5.box.lt)
        (first
          | ((with_reducible refine (cs _ (Below.refl _ _).drew).mono ?_); rintro en w4 ⟨rfl, hx4, ho4⟩; have hp4 : PrIs w4 g E x.R x.f x.c := ⟨(HP.out.later (Below.refl _ _).drew).box.off ho4 hgb, HP.out.f5, HP.out.c5⟩; have hb4 := ho4.size)
          | ((with_reducible refine (ca _ hp4).mono ?_); rintro en w5 ⟨rfl, hp5, ho5⟩)
          | ((with_reducible refine (ca _ (hp4.later (Below.refl _ _).drew)).mono ?_); rintro en w5 ⟨rfl, hp5, ho5⟩))
      all_goals
        go_wp2_with fail
        have hrd : Box wr b 79 (rdC s q' e') := HX.out
        have ho4' : Off (fun y => y = b) W w4 := ((HO.out).trans ((Off.refl (fun y => y = b) wr).drew) (fun _ _ h => h)).trans ho4 (fun _ _ h => h)
        have ho5' : Off (fun y => y = g) w4 w5 := ho5
        have hx5 : Box w5 b 79 (rdC s q3 e3) := hx4.off ho5' hb1
        refine ⟨⟨k + 1, by go_num, hk2, ?_, ?_, ?_⟩, by simp [intOf]; omega⟩
        · rw [HST.out]; exact hp5
        · rw [HST.out]; exact hx5
        · exact ho4'.trans ho5' (fun i hi e => by have := HZ.out; omega)
    · have hkN : k = N := by omega
      go_wp2_with fail
      go_ret
      refine ⟨g, rfl, HZ.out, ?_, ?_, HO.out⟩
      · rw [← hkN]; exact HP.out
      · rw [← hkN]; exact HX.out
end Go.Proofs.Ytdhakekndinbeaa
