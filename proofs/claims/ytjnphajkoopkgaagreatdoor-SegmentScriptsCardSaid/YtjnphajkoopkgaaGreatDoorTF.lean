/- Merged texts. What each proves is told at its head. -/
import Derived.Test.YtjnphajkoopkgaaGreatDoorTD
/- segment: the document's segment: what it is, how many bytes a batch has. No condition. -/
namespace Go.Proofs.YtjnphajkoopkgaaGreatDoor
open Go.RowKit
set_option linter.unusedVariables false
/-- The document's segment in memory: its disk, name, base, batches. -/
structure RgIs (w : World) (g p q : Nat) (n : ByteArray) (base : Int) (M : List BX) (B : Option Addr) (d : Nat) : Prop where
  box : Box w q 53 #[.pointer (some ⟨p, 0, none⟩), .string n, .int .i64 base, .slice B M.length d]
  all : BtsR w g (.slice B M.length d) M
  lo : g ≤ q
theorem RgIs.later {w w' : World} {g p q : Nat} {n : ByteArray} {base : Int} {M : List BX} {B : Option Addr} {d : Nat} (h : RgIs w g p q n base M B d) (hb : Below w.heap.size w w') : RgIs w' g p q n base M B d := ⟨h.box.later hb, h.all.later hb, h.lo⟩
set_option maxHeartbeats 4000000 in
set_option maxRecDepth 100000 in
theorem rsize_c (b : BN) (R : List RX) (A : Option Addr) (c : Nat) (W : World) (h : RsIn W A R) (hl : R.length ≤ 140737488351232) :
    Calls Tryz.prog 42 #[.agg (bnC b (.slice A R.length c))] W (Good W (.int .i64 ((encB b R).size : Int))) := by
  obtain ⟨base, span, prod, epoch, seq⟩ := b
  have hb : Below W.heap.size W (W.alloc (.cells #[.int .i64 base, .int .i64 span, .int .i64 prod, .int .i64 epoch, .int .i64 seq, .slice A R.length c] 44)) := (Below.refl _ _).alloc (Nat.le_refl _) _
  have ce := rencode5_c ⟨base, span, prod, epoch, seq⟩ A c R _ (h.below hb) hl
  have HB := Lib.hid hb
  unfold bnC encV at *
  dsimp only at *
  clear h hb
  generalize encB ⟨base, span, prod, epoch, seq⟩ R = E at *
  go_enter Tryz.func42, Tryz.ntmps42
  go_wp2_with fail
  (with_reducible refine ce.mono ?_)
  rintro e w1 ⟨rfl, hb1⟩
  have HB1 := Lib.hid (HB.out.trans (hb1.mono HB.out.size))
  clear ce hb1
  go_wp2_with fail
  go_ret
  exact ⟨rfl, HB1.out⟩
theorem RgIs.cells {w : World} {g p q : Nat} {n : ByteArray} {base : Int} {M : List BX} {B : Option Addr} {d : Nat} (h : RgIs w g p q n base M B d) : w.cell? ⟨q, 0, none⟩ = some (.pointer (some ⟨p, 0, none⟩)) ∧ w.cell? ⟨q, 1, none⟩ = some (.string n) ∧ w.cell? ⟨q, 2, none⟩ = some (.int .i64 base) ∧ w.cell? ⟨q, 3, none⟩ = some (.slice B M.length d) ∧ q < w.heap.size :=
  ⟨h.box.cell 0, h.box.cell 1, h.box.cell 2, h.box.cell 3, h.box.lt⟩
theorem endN_last {base : Int} {M : List BX} {x : BX} (h : M[M.length - 1]? = some x) : endN base (M.map BX.told) = x.1.base + x.1.span := by
  have e : (M.map BX.told).getLast? = some x.told := by rw [List.getLast?_map, List.getLast?_eq_getElem?, h]; rfl
  unfold endN
  rw [e]
  rfl
end Go.Proofs.YtjnphajkoopkgaaGreatDoor
/- segment: the document's segment: what it is, how many bytes a batch has. No condition. -/
namespace Go.Proofs.YtjnphajkoopkgaaGreatDoor
open Go.RowKit
set_option linter.unusedVariables false
set_option maxHeartbeats 4000000 in
set_option maxRecDepth 100000 in
theorem rend_c (g p q : Nat) (n : ByteArray) (base : Int) (M : List BX) (B : Option Addr) (d : Nat) (W : World) (h : RgIs W g p q n base M B d) (hb : BsIn W B M) (hn : ∀ x ∈ M, (0 ≤ x.1.base ∧ x.1.base ≤ 1099511627776) ∧ (1 ≤ x.1.span ∧ x.1.span ≤ 50)) (hl : M.length ≤ 1000000) :
    Calls Tryz.prog 15 #[sp q] W (Good W (.int .i64 (endN base (M.map BX.told)))) := by
  obtain ⟨y0, y1, y2, y3, hq⟩ := h.cells
  unfold sp
  by_cases hz : M.length = 0
  · have e0 : endN base (M.map BX.told) = base := by rw [List.length_eq_zero_iff.1 hz]; rfl
    rw [e0]
    have hz' : ((M.length : Nat) : Int) = 0 := by omega
    generalize M.length = m at *
    subst hz
    clear h hn hb e0
    go_enter Tryz.func15, Tryz.ntmps15
    go_wp2_with fail
    go_ret
    exact ⟨rfl, Below.refl _ _⟩
  · obtain ⟨x, hx⟩ : ∃ x, M[M.length - 1]? = some x := ⟨_, List.getElem?_eq_getElem (by omega)⟩
    obtain ⟨b, off, rfl, hbl, hca⟩ := hb (by omega)
    obtain ⟨⟨z0, z1, z2, z3, z4, z5⟩, _⟩ := hca _ x hx
    rw [endN_last hx]
    obtain ⟨⟨n1, n2⟩, n3, n4⟩ := hn x (List.mem_of_getElem? hx)
    have hp : (0 : Int) < (M.length : Int) := by omega
    have hk : ((M.length : Nat) : Int) - 1 = ((M.length - 1 : Nat) : Int) := by omega
    obtain ⟨⟨bs, span, prod, epoch, seq⟩, R, A, c⟩ := x
    dsimp only at *
    clear h hn hx hz hca
    generalize hj : M.length - 1 = j at *
    generalize M.length = m at *
    have hk0 : (0 : Int) ≤ (j : Int) := by omega
    have hkn : (j : Int) < (m : Int) := by omega
    generalize hj6 : j * 6 = j6 at *
    go_enter Tryz.func15, Tryz.ntmps15
    have hw : IntKind.i64.wrap (j : Int) = (j : Int) := IntWalk.i64_in _ (by omega)
    have hw2 : IntKind.i64.wrap ((m : Int) - 1) = (j : Int) := by rw [hk]; exact hw
    have nq := World.new_ne W ⟨q, 3, none⟩ y3
    have nb0 := World.new_ne W ⟨b, off + j6, none⟩ z0
    have nb1 := World.new_ne W ⟨b, off + j6 + 1, none⟩ z1
    have nb2 := World.new_ne W ⟨b, off + j6 + 2, none⟩ z2
    have nb3 := World.new_ne W ⟨b, off + j6 + 3, none⟩ z3
    have nb4 := World.new_ne W ⟨b, off + j6 + 4, none⟩ z4
    have nb5 := World.new_ne W ⟨b, off + j6 + 5, none⟩ z5
    go_upto_region 3 with fail
    go_region_held3 (fun v => v.cell? ⟨q, 3, none⟩ = some (.slice (some ⟨b, off, none⟩) m d) ∧ v.cell? ⟨b, off + j6, none⟩ = some (.int .i64 bs) ∧ v.cell? ⟨b, off + j6 + 1, none⟩ = some (.int .i64 span) ∧ v.cell? ⟨b, off + j6 + 2, none⟩ = some (.int .i64 prod) ∧ v.cell? ⟨b, off + j6 + 3, none⟩ = some (.int .i64 epoch) ∧ v.cell? ⟨b, off + j6 + 4, none⟩ = some (.int .i64 seq) ∧ v.cell? ⟨b, off + j6 + 5, none⟩ = some (.slice A R.length c)) (go_keep)
      (fail)
    all_goals
      go_wp2_with fail
      go_ret
      exact ⟨rfl, ((Below.refl _ _).alloc (Nat.le_refl _) _).trans ⟨rfl, rfl, rfl, Nat.le_refl _, fun _ _ => rfl⟩⟩
end Go.Proofs.YtjnphajkoopkgaaGreatDoor
/- segment: the document's Size: by a contract. No condition but that there are not too many. -/
namespace Go.Proofs.YtjnphajkoopkgaaGreatDoor
open Go.RowKit
set_option linter.unusedVariables false
theorem len_step {M : List BX} {k : Nat} {x : BX} (hx : M[k]? = some x) : lenN ((M.map BX.told).take (k + 1)) = lenN ((M.map BX.told).take k) + (encB x.1 x.2.1).size := by
  rw [List.take_add_one, List.getElem?_map, hx, lenN_app]
  show _ + ((encB x.1 (toRX (x.2.1.map (·.1)))).size + 0) = _
  rw [encB_congr x.1 (toRX_map _)]
  rfl
set_option maxHeartbeats 4000000 in
set_option maxRecDepth 100000 in
theorem rsz_c (g p q : Nat) (n : ByteArray) (base : Int) (M : List BX) (B : Option Addr) (d : Nat) (W : World) (h : RgIs W g p q n base M B d) (hb : BsIn W B M) (hr : ∀ x ∈ M, batB x.1 x.2.1 = true) (hl : M.length ≤ 600000) :
    Calls Tryz.prog 17 #[sp q] W (Good W (.int .i64 (lenN (M.map BX.told) : Int))) := by
  have HI := Lib.hid h
  have HB := Lib.hid hb
  have HR := Lib.hid hr
  clear h hb hr
  unfold sp
  go_enter Tryz.func17, Tryz.ntmps17
  go_wp2_with fail
  go_loopw [3, 4] (fun z i wr => ∃ (k m : Nat), z = .int .i64 m ∧ i = .int .i64 k ∧ k ≤ M.length ∧ m = lenN ((M.map BX.told).take k) ∧ m ≤ 60008 * k ∧ Below W.heap.size W wr) (fun _ i _ => M.length - (intOf i).toNat)
  case atStart => exact ⟨0, 0, rfl, rfl, Nat.zero_le _, rfl, Nat.zero_le _, Below.refl _ _⟩
  case round =>
    obtain ⟨k, m, rfl, rfl, hk, hm, hm6, hbw⟩ := hrel
    obtain ⟨y0, y1, y2, y3, hq⟩ := (HI.out.later hbw).cells
    by_cases hkl : k < M.length
    · obtain ⟨x, hx⟩ : ∃ x, M[k]? = some x := ⟨_, List.getElem?_eq_getElem hkl⟩
      obtain ⟨b, off, rfl, hbl, hca⟩ := (HB.out.below hbw) (by omega)
      obtain ⟨⟨z0, z1, z2, z3, z4, z5⟩, hrs⟩ := hca k x hx
      have hbat := HR.out x (List.mem_of_getElem? hx)
      have hez := (encB_size hbat).2
      have HST := Lib.hid (len_step hx)
      have cs := rsize_c x.1 x.2.1 x.2.2.1 x.2.2.2 wr hrs (Nat.le_trans (bat_recs hbat).1 (by decide))
      have HM := Lib.hid hm
      have HW := Lib.hid hbw
      have hki : (k : Int) < (M.length : Int) := by omega
      have hk0 : (0 : Int) ≤ (k : Int) := by omega
      obtain ⟨⟨bs, span, prod, epoch, seq⟩, R, RA, rc⟩ := x
      unfold bnC at cs
      dsimp only at *
      clear hca hx hrs hbat hm hbw
      generalize (encB ⟨bs, span, prod, epoch, seq⟩ R).size = ez at *
      generalize hk6 : k * 6 = k6 at *
      have hm7 : m ≤ 36005000000 := by omega
      go_wp2_with fail
      (with_reducible refine cs.mono ?_)
      rintro e w1 ⟨rfl, hb1⟩
      have HW1 := Lib.hid (HW.out.trans (hb1.mono HW.out.size))
      clear cs hb1 y0 y1 y2 y3 z0 z1 z2 z3 z4 z5 hbl hq
      go_wp2_with fail
      exact ⟨⟨k + 1, m + ez, by go_num, by go_num, hkl, by rw [HST.out, HM.out], by omega, HW1.out⟩, by simp [intOf]; omega⟩
    · have hki : ¬ (k : Int) < (M.length : Int) := by omega
      have e1 : (M.map BX.told).take k = M.map BX.told := List.take_of_length_le (by rw [List.length_map]; omega)
      rw [e1] at hm
      have HF := Lib.hid (And.intro hm hbw)
      clear hm hbw e1
      go_wp2_with fail
      go_ret
      exact ⟨by rw [HF.out.1]; rfl, HF.out.2⟩
end Go.Proofs.YtjnphajkoopkgaaGreatDoor
