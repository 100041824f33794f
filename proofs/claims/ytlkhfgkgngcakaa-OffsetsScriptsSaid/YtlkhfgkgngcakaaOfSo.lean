/- offsets: cmp.Or, a key's compare, slices.SortFunc at keys, by contracts. No condition but that they are not too many. -/
import Derived.Test.YtlkhfgkgngcakaaOfCol
import Derived.Test.YtlkhfgkgngcakaaOfSl
import Derived.Test.YtlkhfgkgngcakaaTakes
import Derived.Test.YtlkhfgkgngcakaaOfCom
import Derived.Sort.OwnSorted
import Derived.Shelf.Abstract
namespace Go.Proofs.Ytlkhfgkgngcakaa
open Go.RowKit Go.Sort Go.Lib Go.Shelf
set_option linter.unusedVariables false
instance : Inhabited KY := ⟨⟨⟨#[]⟩, ⟨#[]⟩, 0⟩⟩
/-- A key's cells. -/
def kyC (k : KY) : List Value := [.string k.g, .string k.t, .int .i64 k.i]
def rowKy (l : List KY) : List Value := l.flatMap kyC
theorem rowKy_len (l : List KY) : (rowKy l).length = l.length * 3 := by
  induction l with
  | nil => rfl
  | cons x l ih => show (_ :: _ :: _ :: rowKy l).length = _; simp only [List.length_cons, ih]; omega
theorem rowKy_app (a b : List KY) : rowKy (a ++ b) = rowKy a ++ rowKy b := by unfold rowKy; rw [List.flatMap_append]
theorem rowKy_one (l : List KY) : ∀ y ∈ rowKy l, y.oneCell' = true := by
  intro y hy
  obtain ⟨x, _, hs⟩ := List.mem_flatMap.1 hy
  unfold kyC at hs
  simp at hs
  rcases hs with rfl | rfl | rfl <;> rfl
theorem rowKy_get : ∀ (l : List KY) (t : Nat), t < l.length * 3 → (rowKy l)[t]? = some ((kyC (l[t / 3]!))[t % 3]!)
  | [], t, h => by simp at h
  | x :: l, t, h => by
    show (kyC x ++ rowKy l)[t]? = _
    by_cases ht : t < 3
    · rw [List.getElem?_append_left (by exact ht)]
      have : t = 0 ∨ t = 1 ∨ t = 2 := by omega
      rcases this with rfl | rfl | rfl <;> rfl
    · obtain ⟨s, rfl⟩ : ∃ s, t = s + 3 := ⟨t - 3, by omega⟩
      rw [List.getElem?_append_right (by show 3 ≤ s + 3; omega)]
      have e1 : s + 3 - (kyC x).length = s := by show s + 3 - 3 = s; omega
      have e2 : (s + 3) / 3 = s / 3 + 1 := by omega
      have e3 : (s + 3) % 3 = s % 3 := by omega
      rw [e1, e2, e3, rowKy_get l s (by simp at h; omega)]
      simp
theorem rowKy_at {l : List KY} {j : Nat} {x : KY} (h : l[j]? = some x) : (rowKy l)[j * 3]? = some (.string x.g) ∧ (rowKy l)[j * 3 + 1]? = some (.string x.t) ∧ (rowKy l)[j * 3 + 2]? = some (.int .i64 x.i) := by
  obtain ⟨hj, hx⟩ := List.getElem?_eq_some_iff.1 h
  have hb : l[j]! = x := by rw [getElem!_pos l j hj, hx]
  refine ⟨?_, ?_, ?_⟩
  · rw [rowKy_get l _ (by omega), show j * 3 / 3 = j by omega, show j * 3 % 3 = 0 by omega, hb]; rfl
  · rw [rowKy_get l _ (by omega), show (j * 3 + 1) / 3 = j by omega, show (j * 3 + 1) % 3 = 1 by omega, hb]; rfl
  · rw [rowKy_get l _ (by omega), show (j * 3 + 2) / 3 = j by omega, show (j * 3 + 2) % 3 = 2 by omega, hb]; rfl
theorem flatC (l : List KY) : (flatK kyC 3 l.toArray).toList = rowKy l := by
  apply List.ext_getElem?
  intro t
  by_cases h : t < l.length * 3
  · rw [rowKy_get l t h, Array.getElem?_toList]
    have h1 := get_flatK kyC 3 l.toArray t (by simpa using h)
    have hs : t < (flatK kyC 3 l.toArray).size := by simpa using h
    rw [getElem!_pos _ t hs] at h1
    rw [Array.getElem?_eq_getElem hs, h1]
    simp
  · rw [List.getElem?_eq_none (by simp; omega), List.getElem?_eq_none (by rw [rowKy_len]; omega)]
theorem flatC_arr (l : List KY) : flatK kyC 3 l.toArray = (rowKy l).toArray := by
  rw [← flatC]
theorem holds_flat {w : World} {g : Nat} {cur : Array Value} {e : TypeId} {xs : List Value} (hb : w.heap[g]? = some (.cells cur e (0, 0))) (ht : cur.toList.take xs.length = xs) : Holds id w g 0 xs.toArray := by
  intro j hj
  have hj' : j < xs.length := by simpa using hj
  refine ⟨?_, by simp [World.frozen?, hb]⟩
  have h1 : (cur.toList.take xs.length)[j]? = xs[j]? := by rw [ht]
  rw [List.getElem?_take_of_lt hj'] at h1
  simp only [World.cell?, hb, Nat.zero_add]
  simp only [Option.isSome_none, Bool.false_eq_true, if_false]
  rw [← Array.getElem?_toList, h1]
  simp [hj']
theorem heap_flat {w : World} {g n : Nat} {os : Array Obj} {cur : Array Value} {e : TypeId} {fr : Nat × Nat} (d : Array Value) (hb : w.heap[g]? = some (.cells cur e fr)) :
    (grow (putRow id (Sort.ahead w n) g 0 d) os).heap[g]? = some (.cells (putCells id 0 d cur) e fr) := by
  have hg : g < w.heap.size := (Array.getElem?_eq_some_iff.1 hb).1
  rw [heap_grow_old _ _ (by simpa using hg)]
  simp [putRow, mapBlock, Sort.ahead, Array.getElem?_modify, hb, onCells]
theorem grownBy_flat {w : World} {g n : Nat} {os : Array Obj} (d : Array Value) : w.grownBy (grow (putRow id (Sort.ahead w n) g 0 d) os) (some g) := by
  refine ⟨rfl, rfl, rfl, by simp, fun k hk hne => ?_⟩
  rw [heap_grow_old _ _ (by simpa using hk)]
  have : g ≠ k := fun e => hne (by rw [e])
  simp [putRow, mapBlock, Sort.ahead, Array.getElem?_modify, this]
theorem take_flat (cur : Array Value) (ts : List Value) (h : ts.length ≤ cur.size) : (putCells id 0 ts.toArray cur).toList.take ts.length = ts := by
  apply List.ext_getElem?
  intro j
  by_cases hj : j < ts.length
  · rw [List.getElem?_take_of_lt hj, Array.getElem?_toList]
    simp [putCells, hj, show j < cur.size by omega]
  · rw [List.getElem?_take_eq_none (by omega), List.getElem?_eq_none (by omega)]
theorem ownsRow_flat {w : World} {base g cap n m sz : Nat} {e : TypeId} {os : Array Obj} {cur : Array Value} {ts : List Value} (hl : ts.length = m * sz) (hbase : base ≤ g) (hb : w.heap[g]? = some (.cells cur e (0, 0)))
    (h1 : m ≤ cap) (h2 : cap ≤ maxLen) (h3 : cur.size = cap * sz) :
    (grow (putRow id (Sort.ahead w n) g 0 ts.toArray) os).ownsRow base e sz (.slice (some ⟨g, 0, none⟩) m cap) m ts :=
  ⟨hl, .inr ⟨g, cap, _, rfl, hbase, heap_flat _ hb, h1, h2, by simp [putCells, h3], by rw [← hl]; exact take_flat cur ts (by rw [h3, hl]; exact Nat.mul_le_mul_right _ h1)⟩⟩
theorem or3_at {X : Nat → Int} {k : Nat} (hk : k < 3) (hz : ∀ j, j < k → X j = 0) (hn : ¬ X k = 0) : or3 (X 0) (X 1) (X 2) = X k := by
  unfold or3
  have : k = 0 ∨ k = 1 ∨ k = 2 := by omega
  rcases this with rfl | rfl | rfl
  · rw [if_neg hn]
  · rw [if_pos (hz 0 (by omega)), if_neg hn]
  · rw [if_pos (hz 0 (by omega)), if_pos (hz 1 (by omega))]
theorem or3_no {X : Nat → Int} (hz : ∀ j, j < 3 → X j = 0) : or3 (X 0) (X 1) (X 2) = 0 := by
  unfold or3
  rw [if_pos (hz 0 (by omega)), if_pos (hz 1 (by omega)), hz 2 (by omega)]
set_option maxHeartbeats 4000000 in
set_option maxRecDepth 100000 in
theorem or_c (X : Nat → Int) (b : Nat) (W : World) (h : ∀ j, j < 3 → W.cell? ⟨b, j, none⟩ = some (.int .i64 (X j))) : Calls Try.prog 52 #[.slice (some ⟨b, 0, none⟩) 3 3] W (fun e w' => e = .returned (.int .i64 (or3 (X 0) (X 1) (X 2))) ∧ w' = W) := by
  have H := Lib.hid h
  obtain ⟨r, hr⟩ : ∃ r, or3 (X 0) (X 1) (X 2) = r := ⟨_, rfl⟩
  have HR := Lib.hid hr
  rw [hr]
  clear h hr
  go_enter Try.func52, Try.ntmps52
  go_wp2_with fail
  go_loop [8] (fun i => ∃ k : Nat, i = .int .i64 k ∧ k ≤ 3 ∧ ∀ j, j < k → X j = 0) (fun i => 3 - (intOf i).toNat)
  case atStart => exact ⟨0, rfl, Nat.zero_le _, fun j hj => by omega⟩
  case round =>
    obtain ⟨k, rfl, hk, hz⟩ := hrel
    have HZ := Lib.hid hz
    clear hz
    by_cases hk3 : k < 3
    · have hK0 : (0 : Int) ≤ (k : Int) := by omega
      have hK1 : (k : Int) < 3 := by omega
      have c := H.out k hk3
      obtain ⟨x, hx⟩ : ∃ x, X k = x := ⟨_, rfl⟩
      rw [hx] at c
      have HX := Lib.hid hx
      clear hx
      by_cases h0 : x = 0
      · have HX0 := Lib.hid (HX.out.trans h0)
        subst h0
        go_wp2_with fail
        go_round
        case rel => exact ⟨k + 1, by go_num, hk3, fun j hj => by
          rcases Nat.lt_succ_iff_lt_or_eq.1 hj with h | h
          · exact HZ.out j h
          · subst h; exact HX0.out⟩
        case measure => simp [intOf]; omega
      · go_wp2_with fail
        go_ret
        refine ⟨?_, rfl⟩
        rw [← HR.out, or3_at hk3 HZ.out (by rw [HX.out]; exact h0), HX.out]
        rfl
    · have hke : ¬ (k : Int) < 3 := by omega
      have h3 : k = 3 := by omega
      have HZ3 := Lib.hid (fun j (hj : j < 3) => HZ.out j (by omega))
      clear h3
      go_wp2_with fail
      go_ret
      exact ⟨by rw [← HR.out, or3_no HZ3.out]; rfl, rfl⟩
def three (a b c : Int) (j : Nat) : Int := if j = 0 then a else if j = 1 then b else c
set_option maxHeartbeats 8000000 in
set_option maxRecDepth 100000 in
theorem compare_c (x y : KY) (W : World) : Calls Try.prog 34 #[.agg #[.string x.g, .string x.t, .int .i64 x.i], .agg #[.string y.g, .string y.t, .int .i64 y.i]] W (fun e w' => e = .returned (.int .i64 (cfK x y)) ∧ ∃ q os', w' = grow (W.drewN q) os') := by
  obtain ⟨a, ha⟩ : ∃ a, Lib.compareBytes x.g.data.toList y.g.data.toList = a := ⟨_, rfl⟩
  obtain ⟨b, hb⟩ : ∃ b, Lib.compareBytes x.t.data.toList y.t.data.toList = b := ⟨_, rfl⟩
  obtain ⟨c, hc⟩ : ∃ c, Lib.compareInt x.i y.i = c := ⟨_, rfl⟩
  have c1 := fun w => Try.strings_Compare x.g y.g w
  have c2 := fun w => Try.strings_Compare x.t y.t w
  have c3 := fun w => Try.cmp_Compare_int x.i y.i w
  have co := fun w blk h => or_c (three a b c) blk w h
  rw [ha] at c1
  rw [hb] at c2
  rw [hc] at c3
  obtain ⟨r, hr⟩ : ∃ r, or3 a b c = r := ⟨_, rfl⟩
  have hcf : cfK x y = r := by unfold cfK; rw [ha, hb, hc, hr]
  have co' : ∀ (w : World) (blk : Nat), (∀ j, j < 3 → w.cell? ⟨blk, j, none⟩ = some (.int .i64 (three a b c j))) → Calls Try.prog 52 #[.slice (some ⟨blk, 0, none⟩) 3 3] w (fun e w' => e = .returned (.int .i64 r) ∧ w' = w) := fun w blk h => by rw [← hr]; exact co w blk h
  rw [hcf]
  clear ha hb hc hr hcf co
  have HX := Lib.hid (Box.new W 45 #[.string x.g, .string x.t, .int .i64 x.i])
  have hb2 := Box.new (W.alloc (.cells #[.string x.g, .string x.t, .int .i64 x.i] 45)) 45 #[.string y.g, .string y.t, .int .i64 y.i]
  rw [World.size_alloc] at hb2
  have hb1 := HX.out.later ((Below.refl (W.alloc (.cells #[.string x.g, .string x.t, .int .i64 x.i] 45)).heap.size _).alloc (Nat.le_refl _) (.cells #[.string y.g, .string y.t, .int .i64 y.i] 45))
  have HG : Hid (∃ os', (W.alloc (.cells #[.string x.g, .string x.t, .int .i64 x.i] 45)).alloc (.cells #[.string y.g, .string y.t, .int .i64 y.i] 45) = grow W os') := Lib.hid ⟨_, by rw [alloc_eq_grow, alloc_eq_grow, grow_grow]⟩
  obtain ⟨y0, y1, y2, yl, _, _, _⟩ := ky3 hb1
  obtain ⟨z0, z1, z2, zl, _, _, _⟩ := ky3 hb2
  clear HX hb1 hb2
  go_enter Try.func34, Try.ntmps34
  go_wp2_with fail
  generalize ((W.alloc (.cells #[.string x.g, .string x.t, .int .i64 x.i] 45)).alloc (.cells #[.string y.g, .string y.t, .int .i64 y.i] 45)) = w2 at *
  generalize W.heap.size = o at *
  have hS0 : w2.drew.cell? ⟨o, 0, none⟩ = some (.string x.g) ∧ w2.drew.cell? ⟨o, 1, none⟩ = some (.string x.t) ∧ w2.drew.cell? ⟨o, 2, none⟩ = some (.int .i64 x.i) ∧ w2.drew.cell? ⟨o + 1, 0, none⟩ = some (.string y.g) ∧ w2.drew.cell? ⟨o + 1, 1, none⟩ = some (.string y.t) ∧ w2.drew.cell? ⟨o + 1, 2, none⟩ = some (.int .i64 y.i) := ⟨y0, y1, y2, z0, z1, z2⟩
  refine wp_region_held_drew (S := (fun w => w.cell? ⟨o, 0, none⟩ = some (.string x.g) ∧ w.cell? ⟨o, 1, none⟩ = some (.string x.t) ∧ w.cell? ⟨o, 2, none⟩ = some (.int .i64 x.i) ∧ w.cell? ⟨o + 1, 0, none⟩ = some (.string y.g) ∧ w.cell? ⟨o + 1, 1, none⟩ = some (.string y.t) ∧ w.cell? ⟨o + 1, 2, none⟩ = some (.int .i64 y.i))) (by kernel_rfl) hS0 (fun hHeld => ?_)
  refine takeW (i := 0) (v := ?v1) rfl (by kernel_rfl) (by kernel_rfl) (by kernel_rfl) (fun _ _ _ h => h) (by kernel_rfl) hHeld ?hy1 ?rest1
  case hy1 => (intro w hSw; (try dsimp only at hSw); go_simp; (try with_reducible rfl))
  try simp only [Act.put, List.setIfInBounds_toArray, List.set_cons_zero, List.set_cons_succ]
  refine takeW (i := 1) (v := ?v2) rfl (by kernel_rfl) (by kernel_rfl) (by kernel_rfl) (fun _ _ _ h => h) (by kernel_rfl) hHeld ?hy2 ?rest2
  case hy2 => (intro w hSw; (try dsimp only at hSw); go_simp; (try with_reducible rfl))
  try simp only [Act.put, List.setIfInBounds_toArray, List.set_cons_zero, List.set_cons_succ]
  refine takeW (i := 2) (v := ?v3) rfl (by kernel_rfl) (by kernel_rfl) (by kernel_rfl) (fun _ _ _ h => h) (by kernel_rfl) hHeld ?hy3 ?rest3
  case hy3 => (intro w hSw; (try dsimp only at hSw); go_simp; (try with_reducible rfl))
  try simp only [Act.put, List.setIfInBounds_toArray, List.set_cons_zero, List.set_cons_succ]
  refine takeW (i := 3) (v := ?v4) rfl (by kernel_rfl) (by kernel_rfl) (by kernel_rfl) (fun _ _ _ h => h) (by kernel_rfl) hHeld ?hy4 ?rest4
  case hy4 => (intro w hSw; (try dsimp only at hSw); go_simp; (try with_reducible rfl))
  try simp only [Act.put, List.setIfInBounds_toArray, List.set_cons_zero, List.set_cons_succ]
  refine takeW (i := 5) (v := ?v5) rfl (by kernel_rfl) (by kernel_rfl) (by kernel_rfl) (fun _ _ _ h => h) (by kernel_rfl) hHeld ?hy5 ?rest5
  case hy5 => (intro w hSw; (try dsimp only at hSw); go_simp; (try with_reducible rfl))
  try simp only [Act.put, List.setIfInBounds_toArray, List.set_cons_zero, List.set_cons_succ]
  refine takeW (i := 6) (v := ?v6) rfl (by kernel_rfl) (by kernel_rfl) (by kernel_rfl) (fun _ _ _ h => h) (by kernel_rfl) hHeld ?hy6 ?rest6
  case hy6 => (intro w hSw; (try dsimp only at hSw); go_simp; (try with_reducible rfl))
  try simp only [Act.put, List.setIfInBounds_toArray, List.set_cons_zero, List.set_cons_succ]
  refine takeW (i := 7) (v := ?v7) rfl (by kernel_rfl) (by kernel_rfl) (by kernel_rfl) (fun _ _ _ h => h) (by kernel_rfl) hHeld ?hy7 ?rest7
  case hy7 => (intro w hSw; (try dsimp only at hSw); go_simp; (try with_reducible rfl))
  try simp only [Act.put, List.setIfInBounds_toArray, List.set_cons_zero, List.set_cons_succ]
  refine takeW (i := 8) (v := ?v8) rfl (by kernel_rfl) (by kernel_rfl) (by kernel_rfl) (fun _ _ _ h => h) (by kernel_rfl) hHeld ?hy8 ?rest8
  case hy8 => (intro w hSw; (try dsimp only at hSw); go_simp; (try with_reducible rfl))
  try simp only [Act.put, List.setIfInBounds_toArray, List.set_cons_zero, List.set_cons_succ]
  refine takeW (i := 9) (v := ?v9) rfl (by kernel_rfl) (by kernel_rfl) (by kernel_rfl) (fun _ _ _ h => h) (by kernel_rfl) hHeld ?hy9 ?rest9
  case hy9 => (intro w hSw; (try dsimp only at hSw); go_simp; (try with_reducible rfl))
  try simp only [Act.put, List.setIfInBounds_toArray, List.set_cons_zero, List.set_cons_succ]
  refine takeW (i := 10) (v := ?v10) rfl (by kernel_rfl) (by kernel_rfl) (by kernel_rfl) (fun _ _ _ h => h) (by kernel_rfl) hHeld ?hy10 ?rest10
  case hy10 => (intro w hSw; (try dsimp only at hSw); go_simp; (try with_reducible rfl))
  try simp only [Act.put, List.setIfInBounds_toArray, List.set_cons_zero, List.set_cons_succ]
  refine takeW (i := 12) (v := ?v11) rfl (by kernel_rfl) (by kernel_rfl) (by kernel_rfl) (fun _ _ _ h => h) (by kernel_rfl) hHeld ?hy11 ?rest11
  case hy11 => (intro w hSw; (try dsimp only at hSw); go_simp; (try with_reducible rfl))
  try simp only [Act.put, List.setIfInBounds_toArray, List.set_cons_zero, List.set_cons_succ]
  refine takeW (i := 13) (v := ?v12) rfl (by kernel_rfl) (by kernel_rfl) (by kernel_rfl) (fun _ _ _ h => h) (by kernel_rfl) hHeld ?hy12 ?rest12
  case hy12 => (intro w hSw; (try dsimp only at hSw); go_simp; (try with_reducible rfl))
  try simp only [Act.put, List.setIfInBounds_toArray, List.set_cons_zero, List.set_cons_succ]
  refine takeW (i := 14) (v := ?v13) rfl (by kernel_rfl) (by kernel_rfl) (by kernel_rfl) (fun _ _ _ h => h) (by kernel_rfl) hHeld ?hy13 ?rest13
  case hy13 => (intro w hSw; (try dsimp only at hSw); go_simp; (try with_reducible rfl))
  try simp only [Act.put, List.setIfInBounds_toArray, List.set_cons_zero, List.set_cons_succ]
  refine takeW (i := 15) (v := ?v14) rfl (by kernel_rfl) (by kernel_rfl) (by kernel_rfl) (fun _ _ _ h => h) (by kernel_rfl) hHeld ?hy14 ?rest14
  case hy14 => (intro w hSw; (try dsimp only at hSw); go_simp; (try with_reducible rfl))
  try simp only [Act.put, List.setIfInBounds_toArray, List.set_cons_zero, List.set_cons_succ]
  refine takeW (i := 16) (v := ?v15) rfl (by kernel_rfl) (by kernel_rfl) (by kernel_rfl) (fun _ _ _ h => h) (by kernel_rfl) hHeld ?hy15 ?rest15
  case hy15 => (intro w hSw; (try dsimp only at hSw); go_simp; (try with_reducible rfl))
  try simp only [Act.put, List.setIfInBounds_toArray, List.set_cons_zero, List.set_cons_succ]
  refine takeW (i := 17) (v := ?v16) rfl (by kernel_rfl) (by kernel_rfl) (by kernel_rfl) (fun _ _ _ h => h) (by kernel_rfl) hHeld ?hy16 ?rest16
  case hy16 => (intro w hSw; (try dsimp only at hSw); go_simp; (try with_reducible rfl))
  try simp only [Act.put, List.setIfInBounds_toArray, List.set_cons_zero, List.set_cons_succ]
  refine wpAnyH_ready (rs := [4]) (by kernel_rfl) (by simp) ?_
  refine consL rfl (by kernel_rfl) (fun K hK => ?_) AllReadyH.nil
  go_simp
  with_reducible refine (c1 _).mono ?_
  rintro en w4 ⟨rfl, rfl⟩
  refine hK.out _ _ (hS0) (fun hHeld => ?_)
  clear hK K
  try simp only [Act.put, List.setIfInBounds_toArray, List.set_cons_zero, List.set_cons_succ]
  refine wpAnyH_ready (rs := [11]) (by kernel_rfl) (by simp) ?_
  refine consL rfl (by kernel_rfl) (fun K hK => ?_) AllReadyH.nil
  go_simp
  with_reducible refine (c2 _).mono ?_
  rintro en w5 ⟨rfl, rfl⟩
  refine hK.out _ _ (hS0) (fun hHeld => ?_)
  clear hK K
  try simp only [Act.put, List.setIfInBounds_toArray, List.set_cons_zero, List.set_cons_succ]
  refine wpAnyH_ready (rs := [18]) (by kernel_rfl) (by simp) ?_
  refine consL rfl (by kernel_rfl) (fun K hK => ?_) AllReadyH.nil
  go_simp
  with_reducible refine (c3 _).mono ?_
  rintro en w6 ⟨rfl, rfl⟩
  refine hK.out _ _ (hS0) (fun hHeld => ?_)
  clear hK K
  try simp only [Act.put, List.setIfInBounds_toArray, List.set_cons_zero, List.set_cons_succ]
  refine wpAnyH_ready (rs := [19]) (by kernel_rfl) (by simp) ?_
  refine consL rfl (by kernel_rfl) (fun K hK => ?_) AllReadyH.nil
  go_simp
  have hBA := (Below.refl w2.drew.heap.size w2.drew).alloc (Nat.le_refl _) (.cells #[.int .i64 a, .int .i64 b, .int .i64 c] 3)
  have hS1 : (w2.alloc (.cells #[.int .i64 a, .int .i64 b, .int .i64 c] 3)).drew.cell? ⟨o, 0, none⟩ = some (.string x.g) ∧ (w2.alloc (.cells #[.int .i64 a, .int .i64 b, .int .i64 c] 3)).drew.cell? ⟨o, 1, none⟩ = some (.string x.t) ∧ (w2.alloc (.cells #[.int .i64 a, .int .i64 b, .int .i64 c] 3)).drew.cell? ⟨o, 2, none⟩ = some (.int .i64 x.i) ∧ (w2.alloc (.cells #[.int .i64 a, .int .i64 b, .int .i64 c] 3)).drew.cell? ⟨o + 1, 0, none⟩ = some (.string y.g) ∧ (w2.alloc (.cells #[.int .i64 a, .int .i64 b, .int .i64 c] 3)).drew.cell? ⟨o + 1, 1, none⟩ = some (.string y.t) ∧ (w2.alloc (.cells #[.int .i64 a, .int .i64 b, .int .i64 c] 3)).drew.cell? ⟨o + 1, 2, none⟩ = some (.int .i64 y.i) := ⟨(hBA.cell (p := ⟨o, 0, none⟩) yl).trans y0, (hBA.cell (p := ⟨o, 1, none⟩) yl).trans y1, (hBA.cell (p := ⟨o, 2, none⟩) yl).trans y2, (hBA.cell (p := ⟨o + 1, 0, none⟩) zl).trans z0, (hBA.cell (p := ⟨o + 1, 1, none⟩) zl).trans z1, (hBA.cell (p := ⟨o + 1, 2, none⟩) zl).trans z2⟩
  refine hK.out _ _ (hS1) (fun hHeld => ?_)
  clear hK K
  try simp only [Act.put, List.setIfInBounds_toArray, List.set_cons_zero, List.set_cons_succ]
  refine wpAnyH_ready (rs := [20]) (by kernel_rfl) (by simp) ?_
  refine consL rfl (by kernel_rfl) (fun K hK => ?_) AllReadyH.nil
  go_simp
  have hC3 : ∀ j, j < 3 → (w2.alloc (.cells #[.int .i64 a, .int .i64 b, .int .i64 c] 3)).drew.cell? ⟨w2.heap.size, j, none⟩ = some (.int .i64 (three a b c j)) := fun j hj => by
    have := (Box.new w2.drew 3 #[.int .i64 a, .int .i64 b, .int .i64 c]).cell j
    refine this.trans ?_
    have h3 : j = 0 ∨ j = 1 ∨ j = 2 := by omega
    rcases h3 with rfl | rfl | rfl <;> rfl
  with_reducible refine (co' _ _ hC3).mono ?_
  rintro en w7 ⟨rfl, rfl⟩
  refine hK.out _ _ (hS1) (fun hHeld => ?_)
  clear hK K
  try simp only [Act.put, List.setIfInBounds_toArray, List.set_cons_zero, List.set_cons_succ]
  refine takeW (i := 21) (v := ?v17) rfl (by kernel_rfl) (by kernel_rfl) (by kernel_rfl) (fun _ _ _ h => h) (by kernel_rfl) hHeld ?hy17 ?rest17
  case hy17 => (intro w hSw; (try dsimp only at hSw); go_simp; (try with_reducible rfl))
  try simp only [Act.put, List.setIfInBounds_toArray, List.set_cons_zero, List.set_cons_succ]
  refine wpAnyH_done (by kernel_rfl) ?_ _
  go_wp2_with fail
  go_ret
  obtain ⟨os', ho⟩ := HG.out
  refine ⟨rfl, 1, os' ++ #[.cells #[.int .i64 a, .int .i64 b, .int .i64 c] 3], ?_⟩
  rw [ho, alloc_eq_grow, grow_grow]
  rfl
end Go.Proofs.Ytlkhfgkgngcakaa
