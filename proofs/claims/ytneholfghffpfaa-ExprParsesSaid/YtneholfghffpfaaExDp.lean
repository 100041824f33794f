/- expr: the program's Depth of a filter whose kids have no kids (as the statements' live calls it), by a contract. -/
import Derived.Test.YtneholfghffpfaaExBase
import Derived.LoopTactic
import Derived.Lib.Hide
import Derived.Deep.RegionHeld3
import Derived.Deep.QuietTactic
import Derived.BigQuiet
namespace Go.Proofs.Ytneholfghffpfaa
open Go.RowKit
set_option linter.unusedVariables false
def DMap (w : World) (m : Nat) : Prop := w.heap[m]? = some (.map #[] 0)
theorem key_fine (b : Bool) (w : World) (a : Addr) : (Instr.checkKey b 10000 41 (.pointer (some a))).run Try.prog w = .ok () w := by
  have hk : Try.prog.underlying 41 = some (.pointer 24) := Try.underlying41
  have h : ∀ n, (Instr.checkKey b (n + 1) 41 (.pointer (some a))).run Try.prog w = .ok () w := fun n => by simp [Instr.checkKey, run_underlying hk]
  exact h 9999
theorem find_none (w : World) (a : Addr) : (Instr.findKey 41 (.pointer (some a)) []).run Try.prog w = .ok none w := by
  have hk : Try.prog.underlying 41 = some (.pointer 24) := Try.underlying41
  simp [Instr.findKey, run_underlying hk, Instr.findNow]
theorem look_none {w : World} {m : Nat} (h : DMap w m) (a : Addr) : (Instr.lookup 39 (.map (some m)) (.pointer (some a)) true).run Try.prog w = .ok (.tuple #[.int .i64 0, .bool false]) w := by
  have hu : Try.prog.underlying 39 = some (.map 41 3) := Try.underlying39
  have hz : (zeroValue 3).run Try.prog w = .ok (.int .i64 0) w := Try.zeroValue3 w
  simp [Instr.lookup, run_underlying hu, MapKept.run_getObj_map h, key_fine, find_none, hz, Result.andThen]
theorem upd_one {w : World} {m : Nat} (h : DMap w m) (a : Addr) (n : Int) : ∃ U, (Instr.mapUpdate 39 (.map (some m)) (.pointer (some a)) (.int .i64 n)).run Try.prog w = .ok () U ∧ Off (· = m) w U := by
  have hu : Try.prog.underlying 39 = some (.map 41 3) := Try.underlying39
  refine ⟨{ w with heap := w.heap.setIfInBounds m (.map #[{ key := .pointer (some a), val := .int .i64 n, born := 0 }] 1) }, by simp [Instr.mapUpdate, run_underlying hu, MapKept.run_getObj_map h, key_fine, find_none, Result.andThen, MapKept.run_setObj_map _ h], rfl, rfl, rfl, by simp, fun k hk hn => ?_⟩
  simp [Array.getElem?_setIfInBounds_ne (fun e => hn e.symm)]
set_option maxHeartbeats 2000000 in
set_option maxRecDepth 100000 in
theorem leaf_c (b off mc fc mb c : Nat) (A : Option Addr) (lv : Int) (W : World) (h0 : 0 ≤ lv) (h1 : lv < 100) (hk : W.cell? ⟨b, off + 3, none⟩ = some (.slice A 0 c)) (hm : W.cell? ⟨mc, 0, none⟩ = some (.map (some mb))) (hM : DMap W mb) :
    Calls Try.prog 24 #[.pointer (some ⟨b, off, none⟩), .int .i64 lv, .pointer (some ⟨mc, 0, none⟩), .pointer (some ⟨fc, 0, none⟩)] W (fun e w' => e = .returned (.int .i64 1) ∧ w' = W) := by
  have hl := look_none hM ⟨b, off, none⟩
  go_enter Try.func24, Try.ntmps24
  go_wp2_with fail
  go_loopw [9, 26] (fun n i wr => n = .int .i64 1 ∧ i = .int .i64 0 ∧ wr = W) (fun _ _ _ => 0)
  case atStart => exact ⟨rfl, rfl, rfl⟩
  case round =>
    obtain ⟨rfl, rfl, rfl⟩ := hrel
    go_wp2_with fail
    go_ret
    exact ⟨rfl, rfl⟩
/-- A filter of one kid that has none. -/
structure OneAt (W : World) (xb b off mc fc mb c1 c2 : Nat) (A2 : Option Addr) (w : World) : Prop where
  kids : w.cell? ⟨xb, 3, none⟩ = some (.slice (some ⟨b, off, none⟩) 1 c1)
  kid : w.cell? ⟨b, off + 3, none⟩ = some (.slice A2 0 c2)
  mcell : w.cell? ⟨mc, 0, none⟩ = some (.map (some mb))
  fcell : w.cell? ⟨fc, 0, none⟩ = some (.func (.func 24) #[] #[.pointer (some ⟨mc, 0, none⟩), .pointer (some ⟨fc, 0, none⟩)])
  map : DMap w mb
  far : Off (fun _ => False) W w
theorem OneAt.drewN {W w : World} {xb b off mc fc mb c1 c2 : Nat} {A2 : Option Addr} (h : OneAt W xb b off mc fc mb c1 c2 A2 w) (n : Nat) : OneAt W xb b off mc fc mb c1 c2 A2 (w.drewN n) :=
  ⟨h.kids, h.kid, h.mcell, h.fcell, h.map, h.far.drewN n⟩
set_option maxHeartbeats 2000000 in
set_option maxRecDepth 100000 in
theorem flat_c (xb b off mc fc mb c1 c2 : Nat) (A2 : Option Addr) (W : World) (h : OneAt W xb b off mc fc mb c1 c2 A2 W) :
    Calls Try.prog 24 #[.pointer (some ⟨xb, 0, none⟩), .int .i64 1, .pointer (some ⟨mc, 0, none⟩), .pointer (some ⟨fc, 0, none⟩)] W (fun e w' => e = .returned (.int .i64 2) ∧ Off (· = mb) W w') := by
  have hl := look_none h.map ⟨xb, 0, none⟩
  have hleaf := fun w (h : OneAt W xb b off mc fc mb c1 c2 A2 w) => leaf_c b off mc fc mb c2 A2 2 w (by decide) (by decide) h.kid h.mcell h.map
  have HU := Lib.hid (fun w (h : OneAt W xb b off mc fc mb c1 c2 A2 w) => upd_one h.map ⟨xb, 0, none⟩ 2)
  obtain ⟨k1, k2, k3, k4, k5, k6⟩ := id h
  have H := Lib.hid h
  clear h
  go_enter Try.func24, Try.ntmps24
  go_wp2_with fail
  go_loopw [9, 26] (fun n i wr => ((n = .int .i64 1 ∧ i = .int .i64 0) ∨ (n = .int .i64 2 ∧ i = .int .i64 1)) ∧ OneAt W xb b off mc fc mb c1 c2 A2 wr) (fun _ i _ => 1 - (intOf i).toNat)
  case atStart => exact ⟨.inl ⟨rfl, rfl⟩, H.out⟩
  case round =>
    obtain ⟨hq, hO⟩ := hrel
    have HO := Lib.hid hO
    clear k1 k2 k3 k4 k5 k6 H hl
    obtain ⟨k1, k2, k3, k4, k5, k6⟩ := hO
    rcases hq with ⟨rfl, rfl⟩ | ⟨rfl, rfl⟩
    · have hl3 : ∀ n, Calls Try.prog 24 #[.pointer (some ⟨b, off, none⟩), .int .i64 2, .pointer (some ⟨mc, 0, none⟩), .pointer (some ⟨fc, 0, none⟩)] (wr.drewN n) (fun e w' => e = .returned (.int .i64 1) ∧ w' = wr.drewN n) := fun n => hleaf (wr.drewN n) (HO.out.drewN n)
      have hl2 : Calls Try.prog 24 #[.pointer (some ⟨b, off, none⟩), .int .i64 (IntKind.i64.wrap 2), .pointer (some ⟨mc, 0, none⟩), .pointer (some ⟨fc, 0, none⟩)] wr.drew (fun e w' => e = .returned (.int .i64 1) ∧ w' = wr.drew) := by
        rw [show IntKind.i64.wrap 2 = 2 from by decide]
        exact hl3 1
      go_wp2_with fail
      go_region_with (go_at_call 24; (with_reducible refine hl2.mono ?_); rintro en w2 ⟨rfl, hw2⟩; (have hw3 := hw2.symm; subst hw3))
      all_goals
        go_wp2_with fail
        exact ⟨⟨.inr ⟨by simp, rfl⟩, HO.out.drewN 1⟩, by decide⟩
    · obtain ⟨U, hU, hoU⟩ := HU.out wr HO.out
      go_wp2_with fail
      go_ret
      exact ⟨rfl, (HO.out.far.mono (S' := (· = mb)) (fun _ _ e => e.elim)).trans hoU (fun _ _ e => e)⟩
theorem make_known (w : World) : (Instr.makeMap 39 none).run Try.prog w = .ok (.map (some w.heap.size)) (w.alloc (.map #[] 0)) := by
  first
    | rfl
    | exact run_makeMap _ _ 
/-- Depth's own memory, just laid. -/
theorem one_start (W : World) (o : Int) (nm vl : ByteArray) (b off c1 c2 : Nat) (A2 : Option Addr) (hb : b < W.heap.size) (h : W.cell? ⟨b, off + 3, none⟩ = some (.slice A2 0 c2)) :
    let W4 := (((W.alloc (.cells #[.int .i64 o, .string nm, .string vl, .slice (some ⟨b, off, none⟩) 1 c1] 24)).alloc (.map #[] 0)).alloc (.cells #[.map (some (W.heap.size + 1))] 39)).alloc (.cells #[.func (.func 24) #[] #[.pointer (some ⟨W.heap.size + 1 + 1, 0, none⟩), .pointer (some ⟨W.heap.size + 1 + 1 + 1, 0, none⟩)]] 40)
    OneAt W4 W.heap.size b off (W.heap.size + 1 + 1) (W.heap.size + 1 + 1 + 1) (W.heap.size + 1) c1 c2 A2 W4 ∧ Below W.heap.size W W4 := by
  intro W4
  have hbel : Below W.heap.size W W4 := ((((Below.refl _ _).alloc (Nat.le_refl _) _).alloc (by simp) _).alloc (by simp; omega) _).alloc (by simp; omega) _
  have b1 : Box W4 W.heap.size 24 #[.int .i64 o, .string nm, .string vl, .slice (some ⟨b, off, none⟩) 1 c1] := (((Box.new _ _ _).alloc _).alloc _).alloc _
  have s1 : (W.alloc (.cells #[.int .i64 o, .string nm, .string vl, .slice (some ⟨b, off, none⟩) 1 c1] 24)).heap.size = W.heap.size + 1 := by simp
  have s2 : ((W.alloc (.cells #[.int .i64 o, .string nm, .string vl, .slice (some ⟨b, off, none⟩) 1 c1] 24)).alloc (.map #[] 0)).heap.size = W.heap.size + 1 + 1 := by simp
  have s3 : (((W.alloc (.cells #[.int .i64 o, .string nm, .string vl, .slice (some ⟨b, off, none⟩) 1 c1] 24)).alloc (.map #[] 0)).alloc (.cells #[.map (some (W.heap.size + 1))] 39)).heap.size = W.heap.size + 1 + 1 + 1 := by simp
  have b3 := (Box.new ((W.alloc (.cells #[.int .i64 o, .string nm, .string vl, .slice (some ⟨b, off, none⟩) 1 c1] 24)).alloc (.map #[] 0)) 39 #[.map (some (W.heap.size + 1))]).alloc (.cells #[.func (.func 24) #[] #[.pointer (some ⟨W.heap.size + 1 + 1, 0, none⟩), .pointer (some ⟨W.heap.size + 1 + 1 + 1, 0, none⟩)]] 40)
  rw [s2] at b3
  have b4 := Box.new (((W.alloc (.cells #[.int .i64 o, .string nm, .string vl, .slice (some ⟨b, off, none⟩) 1 c1] 24)).alloc (.map #[] 0)).alloc (.cells #[.map (some (W.heap.size + 1))] 39)) 40 #[.func (.func 24) #[] #[.pointer (some ⟨W.heap.size + 1 + 1, 0, none⟩), .pointer (some ⟨W.heap.size + 1 + 1 + 1, 0, none⟩)]]
  rw [s3] at b4
  have m2 := heap_alloc_new (W.alloc (.cells #[.int .i64 o, .string nm, .string vl, .slice (some ⟨b, off, none⟩) 1 c1] 24)) (.map #[] 0)
  rw [s1] at m2
  have m3 : W4.heap[W.heap.size + 1]? = some (.map #[] 0) := (Below.heap_alloc _ _ _ (by rw [s3]; omega)).trans ((Below.heap_alloc _ _ _ (by rw [s2]; omega)).trans m2)
  exact ⟨⟨b1.cell 3, (hbel.cell (p := ⟨b, off + 3, none⟩) hb).trans h, b3.cell 0, b4.cell 0, m3, Off.refl _ _⟩, hbel⟩
theorem run_store_func {P : Program} {w : World} {a : Addr} {m : Mode} (fn : Fn) (x y : Array Value) : (store a (.func fn x y) m).run P w = stored P w a (.func fn x y) m := run_store P w a _ m rfl
attribute [local go_sem] run_store_func
set_option maxHeartbeats 2000000 in
set_option maxRecDepth 100000 in
theorem depth2_c (t : Tr) (b off c1 c2 : Nat) (A2 : Option Addr) (W : World) (hk : t.kids.length = 1) (hb : b < W.heap.size) (h : W.cell? ⟨b, off + 3, none⟩ = some (.slice A2 0 c2)) :
    Calls Try.prog 13 #[exV t (some ⟨b, off, none⟩) c1] W (Good W (.int .i64 2)) := by
  unfold exV exC
  rw [hk]
  generalize t.op = o
  generalize t.name = nm
  generalize t.value = vl
  have hmk := make_known (W.alloc (.cells #[.int .i64 o, .string nm, .string vl, .slice (some ⟨b, off, none⟩) 1 c1] 24))
  have hsz : (W.alloc (.cells #[.int .i64 o, .string nm, .string vl, .slice (some ⟨b, off, none⟩) 1 c1] 24)).heap.size = W.heap.size + 1 := by simp
  rw [hsz] at hmk
  clear hsz
  have hfl := fun w (h : OneAt w W.heap.size b off (W.heap.size + 1 + 1) (W.heap.size + 1 + 1 + 1) (W.heap.size + 1) c1 c2 A2 w) => flat_c W.heap.size b off (W.heap.size + 1 + 1) (W.heap.size + 1 + 1 + 1) (W.heap.size + 1) c1 c2 A2 w h
  go_enter Try.func13, Try.ntmps13
  go_wp2_with fail
  have hone := one_start W o nm vl b off c1 c2 A2 hb h
  obtain ⟨ho, hbel⟩ := hone
  have HB := Lib.hid hbel
  with_reducible refine (hfl _ ho).mono ?_
  rintro en w2 ⟨rfl, ho2⟩
  have HE : Hid (Below W.heap.size W w2) := Lib.hid (HB.out.trans (ho2.below HB.out.size (fun k hk => by omega)))
  clear hmk ho hbel ho2 hfl
  go_wp2_with fail
  go_ret
  exact ⟨rfl, HE.out⟩
end Go.Proofs.Ytneholfghffpfaa
