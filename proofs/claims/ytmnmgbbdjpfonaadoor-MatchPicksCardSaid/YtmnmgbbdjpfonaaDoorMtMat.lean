/- match: Match, the program's, by a contract. Condition: the tables of utf8. -/
import Derived.Test.YtmnmgbbdjpfonaaDoorMtThr
import Derived.Test.YtmnmgbbdjpfonaaDoorMtMath
import Derived.Test.YtmnmgbbdjpfonaaDoorMtMay
namespace Go.Proofs.YtmnmgbbdjpfonaaDoor
open Go.RowKit
set_option linter.unusedVariables false
/-- Does a filter let a record through, so deep at most? -/
def letsG (r : Rec) : Nat → Tr → Bool
  | 0, _ => false
  | m + 1, t => thruB (letsG r m) r t
/-- What Match answers. -/
def matchG (t : Tr) (r : Rec) : Bool × Int := if checkG t = 0 ∧ recE r = 0 then (letsG r 6 t, 0) else (false, 1)
theorem trAt_to : ∀ {ok : Nat → Prop} {w : World} {d k : Nat} {A : Option Addr} {t : Tr}, TrAt ok w d A t → depD k t → TrAt ok w k A t := by
  intro ok w d
  induction d with
  | zero =>
    intro k A t h hk
    cases k with
    | zero => exact h
    | succ k => exact ⟨h.1, fun hp => absurd h.2 (by omega)⟩
  | succ d ih =>
    intro k A t h hk
    cases k with
    | zero => exact ⟨h.1, by have h2 : t.kids = [] := hk; rw [h2]; rfl⟩
    | succ k =>
      refine ⟨h.1, fun hp => ?_⟩
      obtain ⟨b, off, e, ho, hlt, hc⟩ := h.2 hp
      refine ⟨b, off, e, ho, hlt, fun j x hj => ?_⟩
      obtain ⟨A', c', q0, q1, q2, q3, hkid⟩ := hc j x hj
      exact ⟨A', c', q0, q1, q2, q3, ih hkid (hk x (List.mem_of_getElem? hj))⟩
theorem checkG_ok {t : Tr} (h : checkG t = 0) : partsB 6 t = true := by
  unfold checkG at h
  split at h
  · cases h
  · rename_i h2
    cases hp : partsB 6 t with
    | true => rfl
    | false => exact absurd (.inr hp) h2
theorem recSm_of {r : Rec} (h : recE r = 0) : RecSm r := by
  unfold recE at h
  split at h
  · rename_i h2
    unfold okRec okLen at h2
    simp only [Bool.and_eq_true, decide_eq_true_eq, List.all_eq_true] at h2
    refine ⟨by omega, by omega, fun x hx => ?_⟩
    have := h2.2 x hx
    unfold okHead at this
    simp only [decide_eq_true_eq] at this
    omega
  · cases h
theorem thru_c (r : Rec) (Ar : Option Addr) (cr : Nat) (hS : RecSm r) : ∀ (m d : Nat) (t : Tr) (A : Option Addr) (c : Nat) (W : World), partsB m t = true → TrAt (fun _ => True) W d A t → RIn W r Ar cr → Tabs W →
    Calls Tryd.prog 22 #[exV t A c, recV r Ar cr] W (Good W (.bool (letsG r m t))) := by
  intro m
  induction m with
  | zero => intro d t A c W hp; cases hp
  | succ m ih =>
    intro d t A c W hp hT hR hTb
    unfold partsB at hp
    rw [Bool.and_eq_true, List.all_eq_true] at hp
    exact thru_in (letsG r m) t A c r Ar cr d W hT hR hS hTb hp.1 (fun x hx d A c w h1 h2 h3 => ih d x A c w (hp.2 x hx) h1 h2 h3)
/-- What a match hands back. -/
def Told (x : Bool × Int) : Value := .tuple #[.bool x.1, .int .i64 x.2]
set_option maxHeartbeats 2000000 in
set_option maxRecDepth 100000 in
theorem pmatch_c (t : Tr) (A : Option Addr) (c : Nat) (r : Rec) (Ar : Option Addr) (cr : Nat) (W : World) (hT : TrAt (fun _ => True) W 19 A t) (hR : RIn W r Ar cr) (hTb : Tabs W) :
    Calls Tryd.prog 11 #[exV t A c, recV r Ar cr] W (Good W (Told (matchG t r))) := by
  have hd : depD 19 t := hT.depD
  have c1 := fun w (h : Both W W.heap.size (W.heap.size + 1) t A c r Ar cr 19 w) => check_c (fun _ => True) 19 t A c w (by decide) h.tree
  rw [check_same hd hd (by decide)] at c1
  have c2 := fun w (h : Both W W.heap.size (W.heap.size + 1) t A c r Ar cr 19 w) => pchk4_c r Ar cr w h.rin
  have c3 := fun (h1 : checkG t = 0) (h2 : recE r = 0) w (h : Both W W.heap.size (W.heap.size + 1) t A c r Ar cr 19 w) => thru_c r Ar cr (recSm_of h2) 6 19 t A c w (checkG_ok h1) h.tree h.rin h.tabs
  have HB := Lib.hid (Both.start (c := c) hT hR hTb)
  obtain ⟨⟨x0, x1, x2, x3⟩, y0, y1, y2, y3, y4, y5, y6⟩ := HB.out.cells
  have hc : ∀ w, Both W W.heap.size (W.heap.size + 1) t A c r Ar cr 19 w → _ := fun w h => h.cells
  have hce : checkG t = 0 ∨ checkG t = 1 := by unfold checkG; split <;> simp
  have hre : recE r = 0 ∨ recE r = 1 := by unfold recE; split <;> simp
  generalize hV : matchG t r = V
  unfold matchG at hV
  generalize letsG r 6 t = lv at *
  clear hT hR hTb hd
  rcases hce with he | he
  · rw [he] at c1
    have c3' := c3 he
    clear c3
    rcases hre with hr | hr
    · rw [hr] at c2
      have c4 := c3' hr
      have HV : Hid (V = (lv, 0)) := Lib.hid (by rw [← hV, if_pos ⟨he, hr⟩])
      clear c3' hV he hr
      unfold exV exC recV recC Told at *
      go_enter Tryd.func11, Tryd.ntmps11
      go_wp2_with fail
      with_reducible refine (c1 _ HB.out).mono ?_
      rintro en w1 ⟨rfl, hb1⟩
      have HB1 := Lib.hid (HB.out.later hb1)
      clear hb1 c1 x0 x1 x2 x3 y0 y1 y2 y3 y4 y5 y6 HB
      obtain ⟨⟨x0, x1, x2, x3⟩, y0, y1, y2, y3, y4, y5, y6⟩ := hc _ HB1.out
      go_wp2_with fail
      with_reducible refine (c2 _ HB1.out).mono ?_
      rintro en w2 ⟨rfl, hb2⟩
      have HB2 := Lib.hid (HB1.out.later hb2)
      clear hb2 c2 x0 x1 x2 x3 y0 y1 y2 y3 y4 y5 y6 HB1
      obtain ⟨⟨x0, x1, x2, x3⟩, y0, y1, y2, y3, y4, y5, y6⟩ := hc _ HB2.out
      go_wp2_with fail
      with_reducible refine (c4 _ HB2.out).mono ?_
      rintro en w3 ⟨rfl, hb3⟩
      have hb := (HB2.out.later hb3).bel
      clear HB2 hb3
      go_wp2_with fail
      go_ret2
      exact ⟨by rw [HV.out]; rfl, hb⟩
    · rw [hr] at c2
      have HV : Hid (V = (false, 1)) := Lib.hid (by rw [← hV, if_neg (by rw [hr]; omega)])
      clear c3' hV he hr
      unfold exV exC recV recC Told at *
      go_enter Tryd.func11, Tryd.ntmps11
      go_wp2_with fail
      with_reducible refine (c1 _ HB.out).mono ?_
      rintro en w1 ⟨rfl, hb1⟩
      have HB1 := Lib.hid (HB.out.later hb1)
      clear hb1 c1 x0 x1 x2 x3 y0 y1 y2 y3 y4 y5 y6 HB
      obtain ⟨⟨x0, x1, x2, x3⟩, y0, y1, y2, y3, y4, y5, y6⟩ := hc _ HB1.out
      go_wp2_with fail
      with_reducible refine (c2 _ HB1.out).mono ?_
      rintro en w2 ⟨rfl, hb2⟩
      have hb := (HB1.out.later hb2).bel
      clear HB1 hb2
      go_wp2_with fail
      go_ret2
      exact ⟨by rw [HV.out]; rfl, hb⟩
  · rw [he] at c1
    have HV : Hid (V = (false, 1)) := Lib.hid (by rw [← hV, if_neg (by rw [he]; omega)])
    clear c2 c3 hV he hre
    unfold exV exC recV recC Told at *
    go_enter Tryd.func11, Tryd.ntmps11
    go_wp2_with fail
    with_reducible refine (c1 _ HB.out).mono ?_
    rintro en w1 ⟨rfl, hb1⟩
    have hb := (HB.out.later hb1).bel
    clear HB hb1 c1
    go_wp2_with fail
    go_ret2
    exact ⟨by rw [HV.out]; rfl, hb⟩
end Go.Proofs.YtmnmgbbdjpfonaaDoor
