/- match: the document's Match, and the law's own examples, by contracts. Condition: the tables of utf8. -/
import Derived.Test.YtmnmgbbdjpfonaaDoorMtPk
import Derived.Test.YtmnmgbbdjpfonaaDoorMtOp
namespace Go.Proofs.YtmnmgbbdjpfonaaDoor
open Go.RowKit
set_option linter.unusedVariables false
theorem rlets_c (r : Rec) (Ar : Option Addr) (cr : Nat) (hS : RecSm r) : ∀ (m d : Nat) (t : Tr) (A : Option Addr) (c : Nat) (W : World), m ≤ 900 → partsB m t = true → TrAt (fun _ => True) W d A t → RIn W r Ar cr → Tabs W →
    Calls Tryd.prog 24 #[exV t A c, recV r Ar cr, .int .i64 (m : Int)] W (Good W (.bool (letsG r m t))) := by
  intro m
  induction m with
  | zero => intro d t A c W _ hp; cases hp
  | succ m ih =>
    intro d t A c W hm hp hT hR hTb
    unfold partsB at hp
    rw [Bool.and_eq_true, List.all_eq_true] at hp
    refine rlets_in (letsG r m) ((m + 1 : Nat) : Int) t A c r Ar cr d W ⟨by omega, by omega⟩ hT hR hS hTb hp.1 (fun x hx d A c w h1 h2 h3 => ?_)
    have e : IntKind.i64.wrap (((m + 1 : Nat) : Int) - 1) = (m : Int) := by rw [IntKind.wrap_i64]; omega
    rw [e]
    exact ih d x A c w (by omega) (hp.2 x hx) h1 h2 h3
set_option maxHeartbeats 2000000 in
set_option maxRecDepth 100000 in
theorem rmatch_c (d : Nat) (t : Tr) (A : Option Addr) (c : Nat) (r : Rec) (Ar : Option Addr) (cr : Nat) (W : World) (hT : TrAt (fun _ => True) W d A t) (hR : RIn W r Ar cr) (hTb : Tabs W) :
    Calls Tryd.prog 12 #[exV t A c, recV r Ar cr] W (Good W (Told (matchG t r))) := by
  have c1 := fun w (h : Both W W.heap.size (W.heap.size + 1) t A c r Ar cr d w) => rCheck_c (fun _ => True) d t A c w h.tree
  have c2 := fun w (h : Both W W.heap.size (W.heap.size + 1) t A c r Ar cr d w) => rcheck_c r Ar cr w h.rin
  have c3 : ∀ (h1 : checkG t = 0) (h2 : recE r = 0) w (h : Both W W.heap.size (W.heap.size + 1) t A c r Ar cr d w), Calls Tryd.prog 24 #[exV t A c, recV r Ar cr, .int .i64 6] w (Good w (.bool (letsG r 6 t))) := fun h1 h2 w h => rlets_c r Ar cr (recSm_of h2) 6 d t A c w (by decide) (checkG_ok h1) h.tree h.rin h.tabs
  have HB := Lib.hid (Both.start (c := c) hT hR hTb)
  obtain ⟨⟨x0, x1, x2, x3⟩, y0, y1, y2, y3, y4, y5, y6⟩ := HB.out.cells
  have hc : ∀ w, Both W W.heap.size (W.heap.size + 1) t A c r Ar cr d w → _ := fun w h => h.cells
  have hce : checkG t = 0 ∨ checkG t = 1 := by unfold checkG; split <;> simp
  have hre : recE r = 0 ∨ recE r = 1 := by unfold recE; split <;> simp
  generalize hV : matchG t r = V
  unfold matchG at hV
  generalize letsG r 6 t = lv at *
  clear hT hR hTb
  rcases hce with he | he
  · rw [he] at c1
    have c3' := c3 he
    clear c3
    rcases hre with hr | hr
    · rw [hr] at c2
      have c4 := c3' hr
      have HV : Hid (V = (lv, 0)) := Lib.hid (by rw [← hV, if_pos ⟨he, hr⟩])
      clear c3' hV he hr
      unfold exV exC recV recC Told at *
      go_enter Tryd.func12, Tryd.ntmps12
      go_wp2_with fail
      with_reducible refine (c1 _ HB.out).mono ?_
      rintro en w1 ⟨rfl, hb1⟩
      have HB1 := Lib.hid (HB.out.later hb1)
      clear hb1 c1 x0 x1 x2 x3 y0 y1 y2 y3 y4 y5 y6 HB
      obtain ⟨⟨x0, x1, x2, x3⟩, y0, y1, y2, y3, y4, y5, y6⟩ := hc _ HB1.out
      go_wp2_with fail
      with_reducible refine (c2 _ HB1.out).mono ?_
      rintro en w2 ⟨rfl, hb2⟩
      have HB2 := Lib.hid (HB1.out.later hb2)
      clear hb2 c2 x0 x1 x2 x3 y0 y1 y2 y3 y4 y5 y6 HB1
      obtain ⟨⟨x0, x1, x2, x3⟩, y0, y1, y2, y3, y4, y5, y6⟩ := hc _ HB2.out
      go_wp2_with fail
      with_reducible refine (c4 _ HB2.out).mono ?_
      rintro en w3 ⟨rfl, hb3⟩
      have hb := (HB2.out.later hb3).bel
      clear HB2 hb3
      go_wp2_with fail
      go_ret2
      exact ⟨by rw [HV.out]; rfl, hb⟩
    · rw [hr] at c2
      have HV : Hid (V = (false, 1)) := Lib.hid (by rw [← hV, if_neg (by rw [hr]; omega)])
      clear c3' hV he hr
      unfold exV exC recV recC Told at *
      go_enter Tryd.func12, Tryd.ntmps12
      go_wp2_with fail
      with_reducible refine (c1 _ HB.out).mono ?_
      rintro en w1 ⟨rfl, hb1⟩
      have HB1 := Lib.hid (HB.out.later hb1)
      clear hb1 c1 x0 x1 x2 x3 y0 y1 y2 y3 y4 y5 y6 HB
      obtain ⟨⟨x0, x1, x2, x3⟩, y0, y1, y2, y3, y4, y5, y6⟩ := hc _ HB1.out
      go_wp2_with fail
      with_reducible refine (c2 _ HB1.out).mono ?_
      rintro en w2 ⟨rfl, hb2⟩
      have hb := (HB1.out.later hb2).bel
      clear HB1 hb2
      go_wp2_with fail
      go_ret2
      exact ⟨by rw [HV.out]; rfl, hb⟩
  · rw [he] at c1
    have HV : Hid (V = (false, 1)) := Lib.hid (by rw [← hV, if_neg (by rw [he]; omega)])
    clear c2 c3 hV he hre
    unfold exV exC recV recC Told at *
    go_enter Tryd.func12, Tryd.ntmps12
    go_wp2_with fail
    with_reducible refine (c1 _ HB.out).mono ?_
    rintro en w1 ⟨rfl, hb1⟩
    have hb := (HB.out.later hb1).bel
    clear HB hb1 c1
    go_wp2_with fail
    go_ret2
    exact ⟨by rw [HV.out]; rfl, hb⟩
/-- The law's own filters. -/
def wT (v : ByteArray) : Tr := Tr.mk 7 ⟨#[]⟩ v []
theorem wT_node (v : ByteArray) (hv : v.size ≤ 1000) : NodeOk (wT v) := ⟨(by decide : (-9223372036854775808 : Int) ≤ 7), (by decide : (7 : Int) < 9223372036854775808), (by decide : (⟨#[]⟩ : ByteArray).size ≤ 1152921504606846976), (by omega : v.size ≤ 1152921504606846976), (by decide : (0 : Nat) ≤ 1152921504606846976)⟩
theorem wT_at (v : ByteArray) (hv : v.size ≤ 1000) (w : World) : TrAt (fun _ => True) w 19 none (wT v) := TrAt.le (d := 0) ⟨wT_node v hv, rfl⟩ (by decide)
theorem wT_part (v : ByteArray) : partsB 6 (wT v) = smB v := by
  unfold partsB partB wT
  simp [Tr.op, Tr.kids, Tr.name]
  rfl
theorem wT_size (v : ByteArray) : sizeG (wT v) = 1 := by
  rw [sizeG_eq]; rfl
theorem wT_check (v : ByteArray) (hv : smB v = true) : checkG (wT v) = 0 := by
  unfold checkG
  rw [if_neg]
  rw [wT_size, wT_part, hv]
  decide
theorem wT_lets (v x : ByteArray) : letsG (liveR x) 6 (wT v) = hasB x.data.toList v.data.toList := by
  unfold letsG thruB wT
  simp [Tr.op, Tr.value, liveR]
theorem words_Foo : TK.words [70, 111, 111, 33] = [[102, 111, 111]] := by
  rw [TK.wordsF _ 20 (by decide)]
  decide +kernel
theorem words_food : TK.words [102, 111, 111, 100] = [[102, 111, 111, 100]] := by
  rw [TK.wordsF _ 20 (by decide)]
  decide +kernel
theorem words_fo : TK.words [102, 111, 111] = [[102, 111, 111]] := by
  rw [TK.wordsF _ 20 (by decide)]
  decide +kernel
theorem words_no : TK.words [] = [] := by
  rw [TK.wordsF _ 20 (by decide)]
  decide +kernel
theorem words_afoo : TK.words [97, 32, 102, 111, 111] = [[97], [102, 111, 111]] := by
  rw [TK.wordsF _ 20 (by decide)]
  decide +kernel
def fooB : ByteArray := ⟨#[102, 111, 111]⟩
theorem m1G : matchG (wT fooB) (liveR ⟨#[70, 111, 111, 33]⟩) = (true, 0) := by
  unfold matchG
  rw [if_pos ⟨wT_check _ (by decide), by decide⟩, wT_lets]
  have : hasB [70, 111, 111, 33] [102, 111, 111] = true := by unfold hasB; rw [words_Foo]; decide
  rw [show (⟨#[70, 111, 111, 33]⟩ : ByteArray).data.toList = [70, 111, 111, 33] from rfl, show fooB.data.toList = [102, 111, 111] from rfl, this]
theorem m2G : matchG (wT fooB) (liveR ⟨#[102, 111, 111, 100]⟩) = (false, 0) := by
  unfold matchG
  rw [if_pos ⟨wT_check _ (by decide), by decide⟩, wT_lets]
  have : hasB [102, 111, 111, 100] [102, 111, 111] = false := by unfold hasB; rw [words_food]; decide
  rw [show (⟨#[102, 111, 111, 100]⟩ : ByteArray).data.toList = [102, 111, 111, 100] from rfl, show fooB.data.toList = [102, 111, 111] from rfl, this]
theorem m3G : matchG (wT ⟨#[]⟩) (liveR ⟨#[]⟩) = (false, 1) := by
  unfold matchG
  rw [if_neg]
  intro h
  have h1 := checkG_ok h.1
  rw [wT_part] at h1
  revert h1
  decide
def three : List ByteArray := [⟨#[102, 111, 111]⟩, ⟨#[]⟩, ⟨#[97, 32, 102, 111, 111]⟩]
theorem m4G : cntL (wT fooB) three 3 = 2 := by
  have h1 : hasB [102, 111, 111] [102, 111, 111] = true := by unfold hasB; rw [words_fo]; decide
  have h2 : hasB [] [102, 111, 111] = false := by unfold hasB; rw [words_no]; decide
  have h3 : hasB [97, 32, 102, 111, 111] [102, 111, 111] = true := by unfold hasB; rw [words_afoo]; decide
  unfold cntL three
  simp [wT_lets, fooB, h1, h2, h3]
def rowC : Array Value := #[.int .i64 0, .int .i64 0, .bool false, .string ⟨#[]⟩, .bool false, .string ⟨#[102, 111, 111]⟩, .slice none 0 0, .int .i64 0, .int .i64 0, .bool false, .string ⟨#[]⟩, .bool false, .string ⟨#[]⟩, .slice none 0 0, .int .i64 0, .int .i64 0, .bool false, .string ⟨#[]⟩, .bool false, .string ⟨#[97, 32, 102, 111, 111]⟩, .slice none 0 0]
theorem row_lv {w : World} {q : Nat} (h : Box w q 27 rowC) : LvIn w q three := by
  refine ⟨h.lt, fun j v hj => ?_⟩
  have c := fun i => h.cell i
  match j, hj with
  | 0, hj => injection hj with hj; subst hj; exact ⟨c _, c _, c _, c _, c _, c _, c _⟩
  | 1, hj => injection hj with hj; subst hj; exact ⟨c _, c _, c _, c _, c _, c _, c _⟩
  | 2, hj => injection hj with hj; subst hj; exact ⟨c _, c _, c _, c _, c _, c _, c _⟩
  | j + 3, hj => cases hj
set_option maxHeartbeats 4000000 in
set_option maxRecDepth 100000 in
theorem live8_c (W : World) (hTb : Tabs W) : Calls Tryd.prog 10 #[] W (Good W (.bool true)) := by
  have c1 : ∀ w, Tabs w → Calls Tryd.prog 11 #[.agg #[.int .i64 7, .string ⟨#[]⟩, .string ⟨#[102, 111, 111]⟩, .slice none 0 0], .agg #[.int .i64 0, .int .i64 0, .bool false, .string ⟨#[]⟩, .bool false, .string ⟨#[70, 111, 111, 33]⟩, .slice none 0 0]] w (Good w (.tuple #[.bool true, .int .i64 0])) := fun w h => by
    have := pmatch_c (wT fooB) none 0 (liveR ⟨#[70, 111, 111, 33]⟩) none 0 w (wT_at _ (by decide) w) (live_in _ (by decide) w) h
    rw [m1G] at this; exact this
  have c2 : ∀ w, Tabs w → Calls Tryd.prog 11 #[.agg #[.int .i64 7, .string ⟨#[]⟩, .string ⟨#[102, 111, 111]⟩, .slice none 0 0], .agg #[.int .i64 0, .int .i64 0, .bool false, .string ⟨#[]⟩, .bool false, .string ⟨#[102, 111, 111, 100]⟩, .slice none 0 0]] w (Good w (.tuple #[.bool false, .int .i64 0])) := fun w h => by
    have := pmatch_c (wT fooB) none 0 (liveR ⟨#[102, 111, 111, 100]⟩) none 0 w (wT_at _ (by decide) w) (live_in _ (by decide) w) h
    rw [m2G] at this; exact this
  have c3 : ∀ w, Tabs w → Calls Tryd.prog 11 #[.agg #[.int .i64 7, .string ⟨#[]⟩, .string ⟨#[]⟩, .slice none 0 0], .agg #[.int .i64 0, .int .i64 0, .bool false, .string ⟨#[]⟩, .bool false, .string ⟨#[]⟩, .slice none 0 0]] w (Good w (.tuple #[.bool false, .int .i64 1])) := fun w h => by
    have := pmatch_c (wT ⟨#[]⟩) none 0 (liveR ⟨#[]⟩) none 0 w (wT_at _ (by decide) w) (live_in _ (by decide) w) h
    rw [m3G] at this; exact this
  have c4 : ∀ w q, Tabs w → Box w q 27 rowC → Calls Tryd.prog 13 #[.agg #[.int .i64 7, .string ⟨#[]⟩, .string ⟨#[102, 111, 111]⟩, .slice none 0 0], .slice (some ⟨q, 0, none⟩) 3 3] w (Picked w 2) := fun w q h hq => by
    have := pick0_c (wT fooB) none 0 three q 3 w (wT_at _ (by decide) w) (row_lv hq) h (by decide) (wT_check _ (by decide)) (by decide)
    rw [show three.length = 3 from rfl, m4G] at this; exact this
  have HT := Lib.hid hTb
  have HX := Lib.hid (Box.new W 24 #[.int .i64 7, .string ⟨#[]⟩, .string ⟨#[102, 111, 111]⟩, .slice none 0 0])
  have HB := Lib.hid ((Below.refl W.heap.size W).alloc (Nat.le_refl _) (.cells #[.int .i64 7, .string ⟨#[]⟩, .string ⟨#[102, 111, 111]⟩, .slice none 0 0] 24))
  have hc : ∀ w, Box w W.heap.size 24 #[.int .i64 7, .string ⟨#[]⟩, .string ⟨#[102, 111, 111]⟩, .slice none 0 0] → (w.cell? ⟨W.heap.size, 0, none⟩ = some (.int .i64 7) ∧ w.cell? ⟨W.heap.size, 1, none⟩ = some (.string ⟨#[]⟩) ∧ w.cell? ⟨W.heap.size, 2, none⟩ = some (.string ⟨#[102, 111, 111]⟩) ∧ w.cell? ⟨W.heap.size, 3, none⟩ = some (.slice none 0 0)) := fun w h => ⟨h.cell 0, h.cell 1, h.cell 2, h.cell 3⟩
  clear hTb
  unfold Picked at c4
  unfold rowC at c4
  go_enter Tryd.func10, Tryd.ntmps10
  go_wp2_with fail
  (with_reducible refine (c1 _ (HT.out.below HB.out)).mono ?_)
  rintro e w1 ⟨rfl, hb1⟩
  have HB1 := Lib.hid (HB.out.trans (hb1.mono HB.out.size))
  have HX1 := Lib.hid (HX.out.later hb1)
  clear hb1 HB HX c1
  obtain ⟨x0, x1, x2, x3⟩ := hc _ HX1.out
  go_wp2_with fail
  (with_reducible refine (c2 _ (HT.out.below HB1.out)).mono ?_)
  rintro e w2 ⟨rfl, hb2⟩
  have HB2 := Lib.hid (HB1.out.trans (hb2.mono HB1.out.size))
  have HX2 := Lib.hid (HX1.out.later hb2)
  clear hb2 HB1 HX1 c2 x0 x1 x2 x3
  go_wp2_with fail
  (with_reducible refine (c3 _ (HT.out.below HB2.out)).mono ?_)
  rintro e w3 ⟨rfl, hb3⟩
  have HB3 := Lib.hid (HB2.out.trans (hb3.mono HB2.out.size))
  have HX3 := Lib.hid (HX2.out.later hb3)
  clear hb3 HB2 HX2 c3
  obtain ⟨x0, x1, x2, x3⟩ := hc _ HX3.out
  have HB4 := Lib.hid (HB3.out.alloc HB3.out.size (.cells #[.int .i64 0, .int .i64 0, .bool false, .string ⟨#[]⟩, .bool false, .string ⟨#[102, 111, 111]⟩, .slice none 0 0, .int .i64 0, .int .i64 0, .bool false, .string ⟨#[]⟩, .bool false, .string ⟨#[]⟩, .slice none 0 0, .int .i64 0, .int .i64 0, .bool false, .string ⟨#[]⟩, .bool false, .string ⟨#[97, 32, 102, 111, 111]⟩, .slice none 0 0] 27))
  have HR := Lib.hid (Box.new w3 27 #[.int .i64 0, .int .i64 0, .bool false, .string ⟨#[]⟩, .bool false, .string ⟨#[102, 111, 111]⟩, .slice none 0 0, .int .i64 0, .int .i64 0, .bool false, .string ⟨#[]⟩, .bool false, .string ⟨#[]⟩, .slice none 0 0, .int .i64 0, .int .i64 0, .bool false, .string ⟨#[]⟩, .bool false, .string ⟨#[97, 32, 102, 111, 111]⟩, .slice none 0 0])
  go_wp2_with fail
  (with_reducible refine (c4 _ _ (HT.out.below HB4.out) HR.out).mono ?_)
  rintro e w4 ⟨A, c, rfl, hb4⟩
  have HB5 := Lib.hid (HB4.out.trans (hb4.mono HB4.out.size))
  clear hb4 HB4 HB3 HX3 HR c4 x0 x1 x2 x3
  go_wp2_with fail
  go_ret
  exact ⟨rfl, HB5.out⟩
end Go.Proofs.YtmnmgbbdjpfonaaDoor
