/- idem: the reader's producers, by a contract. No condition. -/
import Derived.Test.YtdhakekndinbeaaImPs
namespace Go.Proofs.Ytdhakekndinbeaa
open Go.RowKit
set_option linter.unusedVariables false
/-- Those that were read; the least number that may come; the place; the error. -/
abbrev PT := List GH × Int × Int × Int
def stP (s : ByteArray) (t : PT) : PT :=
  (putG ((nuI s t.2.1 1073741824 t.2.2.1 t.2.2.2).1, absH (pdI s (nuI s t.2.1 1073741824 t.2.2.1 t.2.2.2).2.1 (nuI s t.2.1 1073741824 t.2.2.1 t.2.2.2).2.2 0).1 |>.2) t.1,
   (nuI s t.2.1 1073741824 t.2.2.1 t.2.2.2).1 + 1, (pdI s (nuI s t.2.1 1073741824 t.2.2.1 t.2.2.2).2.1 (nuI s t.2.1 1073741824 t.2.2.1 t.2.2.2).2.2 0).2)
def psL (s : ByteArray) : Nat → PT → PT
  | 0, t => t
  | k + 1, t => if t.2.2.2 = 0 then psL s k (stP s t) else t
theorem psL_err (s : ByteArray) {k : Nat} {t : PT} (h : t.2.2.2 ≠ 0) : psL s k t = t := by
  cases k with
  | zero => rfl
  | succ k => unfold psL; rw [if_neg h]
def psR (s : ByteArray) (q e : Int) : PT := psL s (nuI s 0 10000 q e).1.toNat ([], 0, (nuI s 0 10000 q e).2)
def GotPs (W : World) (b : Nat) (s : ByteArray) (q e : Int) (en : Ending) (w' : World) : Prop :=
  en = .returned (dp W.heap.size) ∧ ∃ m F, PdIs w' W.heap.size m F ∧ absF F = (psR s q e).1 ∧ F.length ≤ 10000 ∧ Box w' b 79 (rdC s (psR s q e).2.2.1 (psR s q e).2.2.2) ∧ (∀ y ∈ F, W.heap.size ≤ y.blk) ∧ (∀ g, m = some g → W.heap.size ≤ g) ∧ Off (fun k => k = b) W w'
theorem stP_of {s : ByteArray} {G : List GH} {lst q e : Int} {n p2 e2 : Int} {F : List HE} (g : Nat) (h1 : nuI s lst 1073741824 q e = (n, p2, e2)) (hF : absF F = G) :
    absF (putF ⟨n, g, (nuI s 0 32768 p2 e2).1, (pdI s p2 e2 g).1.R, (pdI s p2 e2 g).1.f, (pdI s p2 e2 g).1.c⟩ F) = (stP s (G, lst, q, e)).1 ∧ (stP s (G, lst, q, e)).2 = (n + 1, (pdI s p2 e2 g).2) := by
  unfold stP
  simp only
  rw [h1]
  simp only
  rw [abs_put, hF, ← pdI_e s p2 e2 g, pdI_at s p2 e2 g]
  exact ⟨rfl, rfl⟩
set_option maxHeartbeats 8000000 in
set_option maxRecDepth 100000 in
theorem producers_c (b : Nat) (s : ByteArray) (q e : Int) (W : World) (h : Box W b 79 (rdC s q e)) (hs : s.size ≤ 1152921504606846976) :
    Calls Try.prog 32 #[.pointer (some ⟨b, 0, none⟩)] W (GotPs W b s q e) := by
  unfold GotPs psR dp
  have hn := nuI_in s 0 10000 q e
  have k1 := fun w hw => inum_c b s q e 0 10000 w hw hs
  generalize nuI s 0 10000 q e = r1 at *
  obtain ⟨n, p1, e1⟩ := r1
  simp only at hn k1 ⊢
  obtain ⟨N, rfl⟩ : ∃ N : Nat, n = N := ⟨n.toNat, by omega⟩
  rw [Int.toNat_natCast]
  have hN : N ≤ 10000 := by omega
  clear hn
  have hlt := h.lt
  have hB : Below W.heap.size W (W.alloc (.cells #[.map none] 58)) := (Below.refl _ _).alloc (Nat.le_refl _) _
  have H0 := Lib.hid (h.later hB)
  have HN0 := Lib.hid (new_is W)
  have HB := Lib.hid (Off.of_below (fun k => k = b) hB)
  have cn := new_c W
  have hb1 : b ≠ W.heap.size := Nat.ne_of_lt hlt
  unfold dp at cn
  clear h hB
  go_enter Try.func32, Try.ntmps32
  go_wp2_with fail
  with_reducible refine cn.mono ?_
  rintro en w0 ⟨rfl, rfl⟩
  generalize W.alloc (.cells #[.map none] 58) = w0 at *
  go_wp2_with fail
  with_reducible refine (k1 _ H0.out).mono ?_
  rintro en w1 ⟨rfl, hx1, ho1⟩
  have HN1 := Lib.hid (HN0.out.off ho1 (fun e => hb1 e.symm) (fun k hk => by cases hk) (fun y hy => by cases hy))
  have HO1 := Lib.hid (HB.out.trans ho1 (fun i hi h => h))
  have HX1 := Lib.hid hx1
  clear hx1 ho1 H0 HN0 HB cn k1
  go_wp2_with fail
  go_loopw [4, 6] (fun l j wr => ∃ (k : Nat) (lst q e : Int) (m : Option Nat) (F : List HE), l = .int .i64 lst ∧ j = .int .i64 k ∧ k ≤ N ∧ (0 ≤ lst ∧ lst ≤ 1073741825) ∧ PdIs wr W.heap.size m F ∧ Box wr b 79 (rdC s q e) ∧ psL s (N - k) (absF F, lst, q, e) = psL s N ([], 0, p1, e1) ∧ F.length ≤ k ∧ (∀ y ∈ F, W.heap.size ≤ y.blk) ∧ (∀ g, m = some g → W.heap.size ≤ g) ∧ Off (fun k => k = b) W wr) (fun _ j _ => N - (intOf j).toNat)
  case atStart => exact ⟨0, 0, p1, e1, none, [], rfl, rfl, Nat.zero_le _, by decide, HN1.out, HX1.out, rfl, Nat.le_refl _, (fun y hy => by cases hy), (fun g hg => by cases hg), HO1.out⟩
  case round =>
    obtain ⟨k, lst, q, e, m, F, rfl, rfl, hk, hls, hp, hx, hL, hlen, hblk, hmb, ho⟩ := hrel
    have HP := Lib.hid hp
    have HX := Lib.hid hx
    have HO := Lib.hid ho
    have HL := Lib.hid hL
    have HBL := Lib.hid hblk
    have HMB := Lib.hid hmb
    obtain ⟨_, _, x2, _, _⟩ := hx.rd0
    clear hp hx ho hL hblk hmb HN1 HX1 HO1
    by_cases hk2 : k < N
    · by_cases he : e = 0
      · subst he
        obtain ⟨r, hr⟩ : ∃ r, nuI s lst 1073741824 q 0 = r := ⟨_, rfl⟩
        obtain ⟨n, p2, e2⟩ := r
        have kn := inum_c b s q 0 lst 1073741824 wr HX.out hs
        have hnb := nuI_in s lst 1073741824 q 0
        rw [hr] at kn hnb
        simp only at kn hnb
        have hnn : 0 ≤ n ∧ n ≤ 1073741824 := by omega
        have HR := Lib.hid hr
        clear hr hnb
        go_wp2_with fail
        with_reducible refine kn.mono ?_
        rintro en w3 ⟨rfl, hx3, ho3⟩
        have kp := producer_c b s p2 e2 w3 hx3 hs
        have hP3 : PdIs w3 W.heap.size m F := HP.out.off ho3 (fun e => hb1 e.symm) (fun g hg e => by have := HMB.out g hg; omega) (fun y hy e => by have := HBL.out y hy; omega)
        have HP3 := Lib.hid hP3
        have HO3 := Lib.hid (HO.out.trans ho3 (fun i hi h => h))
        have HZ3 := Lib.hid (HO3.out.size)
        clear hP3 hx3 ho3 kn x2
        go_wp2_with fail
        with_reducible refine kp.mono ?_
        rintro en w4 ⟨g, rfl, hg, hpr, hx4, ho4⟩
        have hst := stP_of (s := s) (lst := lst) (q := q) (F := F) g HR.out rfl
        have hok := pdI_ok s p2 e2 g
        have hP4 : PdIs w4 W.heap.size m F := HP3.out.off ho4 (fun e => hb1 e.symm) (fun g hg e => by have := HMB.out g hg; omega) (fun y hy e => by have := HBL.out y hy; omega)
        generalize (nuI s 0 32768 p2 e2).1 = E at *
        generalize pdI s p2 e2 g = P at *
        obtain ⟨⟨_, _, _, R, f, c⟩, p3, e3⟩ := P
        simp only at hpr hx4 hst hok
        have kt := iput_c W.heap.size m F ⟨n, g, E, R, f, c⟩ w4 hP4 ⟨hpr, hok, hnn⟩ (fun y hy _ => Nat.ne_of_lt (Nat.lt_of_lt_of_le (HP3.out.all y hy).pr.box.lt hg)) (by omega)
        unfold dp at kt
        simp only at kt
        have HX4 := Lib.hid hx4
        have HO4 := Lib.hid (HO3.out.trans ho4 (fun i hi h => h))
        have HST := Lib.hid hst
        have hgW : W.heap.size ≤ g := Nat.le_trans HZ3.out hg
        have hz4 := HO4.out.size
        clear hpr hx4 ho4 hP4 kp hst hok
        go_wp2_with fail
        with_reducible refine kt.mono ?_
        rintro en w5 ⟨rfl, g', hP5, ho5, hg5⟩
        have hx5 : Box w5 b 79 (rdC s p3 e3) := HX4.out.off ho5 (fun h => h.elim hb1 (fun h => by have := HMB.out b h; omega))
        have hO5 : Off (fun k => k = b) W w5 := HO4.out.trans ho5 (fun i hi h => by
          rcases h with h | h
          · omega
          · have := HMB.out i h; omega)
        have hL5 : psL s (N - (k + 1)) (absF (putF ⟨n, g, E, R, f, c⟩ F), n + 1, p3, e3) = psL s N ([], 0, p1, e1) := by
          rw [← HL.out, show N - k = (N - (k + 1)) + 1 by omega]
          show _ = (if (0 : Int) = 0 then psL s (N - (k + 1)) (stP s (absF F, lst, q, 0)) else _)
          rw [if_pos rfl]
          congr 1
          exact Prod.ext HST.out.1 HST.out.2.symm
        have hlen5 := putF_len ⟨n, g, E, R, f, c⟩ F
        go_wp2_with fail
        refine ⟨⟨k + 1, n + 1, p3, e3, some g', putF ⟨n, g, E, R, f, c⟩ F, by go_num, by go_num, hk2, by omega, hP5, hx5, hL5, by omega, ?_, ?_, hO5⟩, by simp [intOf]; omega⟩
        · intro y hy
          rcases putF_mem.1 hy with e | ⟨e, _⟩
          · rw [e]; exact hgW
          · exact HBL.out y e
        · intro g1 hg1
          injection hg1 with hg1
          rcases hg5 with h | h
          · exact HMB.out g1 (hg1 ▸ h)
          · omega
      · have he1 : (e == (0 : Int)) = false := by simp [he]
        have HE : Hid (psL s N ([], 0, p1, e1) = (absF F, lst, q, e)) := Lib.hid (by rw [← HL.out]; exact psL_err s he)
        clear he
        go_wp2_with fail
        go_ret
        refine ⟨rfl, m, F, HP.out, ?_, by omega, ?_, HBL.out, HMB.out, HO.out⟩
        · rw [HE.out]
        · rw [HE.out]; exact HX.out
    · have HE : Hid (psL s N ([], 0, p1, e1) = (absF F, lst, q, e)) := Lib.hid (by rw [← HL.out, show N - k = 0 by omega]; rfl)
      go_wp2_with fail
      go_ret
      refine ⟨rfl, m, F, HP.out, ?_, by omega, ?_, HBL.out, HMB.out, HO.out⟩
      · rw [HE.out]
      · rw [HE.out]; exact HX.out
end Go.Proofs.Ytdhakekndinbeaa
