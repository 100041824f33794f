/- A file put into a disk's map. No condition. -/
import Derived.Test.YtpdimmkacjilgaaDkSmall
import Derived.Test.YtpdimmkacjilgaaClone
import Derived.Deep.RegionWith
import Derived.Deep.RegionHeld3
import Derived.Deep.DrawnRows
namespace Go.Proofs.Ytpdimmkacjilgaa
open Go.RowKit Go.Maps Go.ChangeMaps Go.WideMaps
set_option linter.unusedVariables false
attribute [local go_sem ↓] Go.wp_at_zero Go.wp_at_succ
theorem clone_c (s : ByteArray) (W : World) (hs : s.size ≤ 281474976710656) : Calls Try.prog 47 #[.string s] W (Good W (.string s)) := by
  go_enter Try.func47, Try.ntmps47
  go_wp2_with (go_at_call 55; refine (Try.stringslite_Clone s _ hs).mono ?_; rintro e w1 ⟨rfl, hb⟩)
  go_ret
  exact ⟨rfl, hb⟩
/-- A file in its place by its name. -/
def insF (f : DF) : List DF → List DF
  | [] => [f]
  | y :: r => if bytesBefore f.name y.name then f :: y :: r else y :: insF f r
theorem insert_entry (f : DF) : ∀ F : List DF, DataW.insert (entry f) (F.map entry) = (insF f F).map entry
  | [] => rfl
  | y :: r => by
    have ih := insert_entry f r
    show (if (entry f).1.before (entry y).1 then _ else _) = _
    unfold insF
    have e : (entry f).1.before (entry y).1 = bytesBefore f.name y.name := rfl
    rw [e]
    split
    · rfl
    · simp only [List.map_cons, ih]
theorem filter_entry (n : List UInt8) (F : List DF) : (F.map entry).filter (fun q => !q.1.sameKey (.string n)) = (F.filter fun f => !(f.name == n)).map entry := by
  rw [List.filter_map]
  rfl
theorem none_filter {F : List DF} {n : List UInt8} (h : fileOf F n = none) : (F.filter fun f => !(f.name == n)) = F := by
  rw [List.filter_eq_self]
  intro f hf
  have := List.find?_eq_none.1 h f hf
  simpa using this
theorem mapD_put (F : List DF) (f : DF) (h : fileOf F f.name = none) : (mapD F).put (.string f.name) (.lit (.int .i64 (f.blk : Int))) = mapD (insF f F) := by
  unfold mapD DataW.put
  simp only
  rw [filter_entry, none_filter h]
  exact congrArg DataW.map (insert_entry f F)
theorem mapD_del (F : List DF) (n : List UInt8) : (mapD F).del (.string n) = mapD (F.filter fun f => !(f.name == n)) := by
  unfold mapD DataW.del
  simp only
  rw [filter_entry]
theorem map_tight {w : World} {k : TypeId} {b n : Nat} {F : List DF} (h : w.ownsMap Try.prog k fileTok b n (mapD F)) : w.ownsMap Try.prog k fileTok b F.length (mapD F) := by
  obtain ⟨es, clock, hb, Ft, hs, hD⟩ := h
  refine ⟨es, clock, hb, Ft, ?_, hD⟩
  have e : F.map entry = (es.toList.map (Go.WideElems.rg Try.prog k fileTok)).foldr DataW.insert [] := by
    unfold mapD at hD
    injection hD
  have := congrArg List.length e
  rw [length_sorted] at this
  simp at this
  omega
theorem map_nil (w : World) : (binOp BinOp.eql 57 (.map none) (.map none)).run Try.prog w = .ok (.bool true) w := by kernel_rfl
theorem map_not (m : Nat) (w : World) : (binOp BinOp.eql 57 (.map (some m)) (.map none)).run Try.prog w = .ok (.bool false) w := by kernel_rfl
theorem make_map (w : World) : (Instr.makeMap 57 none).run Try.prog w = .ok (.map (some w.heap.size)) (w.alloc (.map #[] 0)) := by
  first
    | rfl
    | exact run_makeMap _ _ 
theorem cell_later {w w' : World} {p i : Nat} {v : Value} (h : w.cell? ⟨p, i, none⟩ = some v) (hp : p < w.heap.size) (hb : Below w.heap.size w w') : w'.cell? ⟨p, i, none⟩ = some v :=
  (World.cell?_of_block (hb.block p hp)).trans h
theorem map_later {w w' : World} {g n : Nat} {D : DataW Unit} (h : w.ownsMap Try.prog 9 fileTok g n D) (hb : Below w.heap.size w w') : w'.ownsMap Try.prog 9 fileTok g n D := map_off h (Off.of_below (fun _ => False) hb) (fun x => x)
theorem box_grown {w w' : World} {p g : Nat} {t : TypeId} {cs : Array Value} (h : Box w p t cs) (hg : w.grownBy w' (some g)) (hne : p ≠ g) : Box w' p t cs :=
  (hg.block p h.lt (fun e => hne (by injection e))).trans h
theorem cell_grown {w w' : World} {p i g : Nat} {v : Value} (h : w.cell? ⟨p, i, none⟩ = some v) (hp : p < w.heap.size) (hg : w.grownBy w' (some g)) (hne : p ≠ g) : w'.cell? ⟨p, i, none⟩ = some v :=
  (World.cell?_of_block (hg.block p hp (fun e => hne (by injection e)))).trans h
/-- The store into the map, as one world's turn into another. -/
theorem upd_fun (g nn : Nat) (F : List DF) (n : ByteArray) (f : DF) (hf : f.name = n.data.toList) (hn : n.size ≤ maxLen) (hnn : nn < maxLen) (hnew : fileOf F n.data.toList = none) :
    ∃ U : World → World, (∀ w : World, w.ownsMap Try.prog 9 fileTok g nn (mapD F) → (Instr.mapUpdate 57 (.map (some g)) (.string n) (.pointer (some ⟨f.blk, 0, none⟩))).run Try.prog w = .ok () (U w)) ∧
      ∀ w : World, w.ownsMap Try.prog 9 fileTok g nn (mapD F) → (U w).ownsMap Try.prog 9 fileTok g (nn + 1) (mapD (insF f F)) ∧ w.grownBy (U w) (some g) := by
  have key : ∀ w : World, w.ownsMap Try.prog 9 fileTok g nn (mapD F) → ∃ w' : World, (Instr.mapUpdate 57 (.map (some g)) (.string n) (.pointer (some ⟨f.blk, 0, none⟩))).run Try.prog w = .ok () w' ∧ w'.ownsMap Try.prog 9 fileTok g (nn + 1) (mapD (insF f F)) ∧ w.grownBy w' (some g) := by
    intro w h
    obtain ⟨w', h1, h2, h3⟩ := h.update (string_keyed Try.underlying9) Try.underlying57 hnn (keyOf_string_mk Try.underlying9 hn) (val := .pointer (some ⟨f.blk, 0, none⟩)) (d := .lit (.int .i64 (f.blk : Int))) (ps := []) rfl
    refine ⟨w', h1, ?_, h3⟩
    rw [← hf, mapD_put F f (by rw [hf]; exact hnew)] at h2
    exact h2
  classical
  refine ⟨fun w => if h : w.ownsMap Try.prog 9 fileTok g nn (mapD F) then Classical.choose (key w h) else w, fun w h => ?_, fun w h => ?_⟩
  · simp only [dif_pos h]
    exact (Classical.choose_spec (key w h)).1
  · simp only [dif_pos h]
    exact (Classical.choose_spec (key w h)).2
/-- What a put leaves. -/
def Puts (W : World) (p : Nat) (d : DS) (f : DF) (e : Ending) (w' : World) : Prop :=
  e = .returned (.tuple #[]) ∧ ∃ m, w'.ownsMap Try.prog 9 fileTok m (d.F.length + 1) (mapD (insF f d.F)) ∧ Box w' p 59 (dkC { d with map := some m }) ∧ Off (fun k => k = p ∨ d.map = some k) W w' ∧ (d.map = some m ∨ W.heap.size ≤ m)
set_option maxHeartbeats 2000000 in
set_option maxRecDepth 100000 in
theorem put_c (p : Nat) (d : DS) (W : World) (n : ByteArray) (f : DF) (h : Rep W p d) (hf : f.name = n.data.toList) (hnew : fileOf d.F n.data.toList = none) (hlen : d.F.length ≤ 1000000) (hn : n.size ≤ 140737488351232) :
    Calls Try.prog 39 #[dp p, .string n, dp f.blk] W (Puts W p d f) := by
  have hc := fun w => clone_c n w (by omega)
  obtain ⟨y0, y1, y2, y3, y4⟩ := h.at
  have z2 := h.box.frozen 2
  have hbx := h.box
  have hp := hbx.lt
  have hmp := (h.apart).1
  rcases h.map with ⟨h1, h2⟩ | ⟨m, h1, h2⟩
  · rw [h1] at y2
    unfold dp
    clear h hnew
    have q1 := map_nil
    have q2 : ∀ w : World, (Instr.makeMap 57 none).run Try.prog w = .ok (.map (some w.heap.size)) (w.alloc (.map #[] 0)) := fun w => make_map w
    go_enter Try.func39, Try.ntmps39
    obtain ⟨U, hU, hV⟩ := upd_fun W.heap.size 0 [] n f hf (by unfold maxLen; omega) (by unfold maxLen; omega) rfl
    have V := Lib.hid hV
    clear hV
    have b0 : Box ((W.setCell ⟨p, 2, none⟩ (.map (some W.heap.size))).alloc (Obj.map #[] 0)) p 59 (dkC { d with map := some W.heap.size }) := (hbx.set 2 (.map (some W.heap.size))).alloc _
    have f0 : Off (fun k => k = p ∨ d.map = some k) W ((W.setCell ⟨p, 2, none⟩ (.map (some W.heap.size))).alloc (Obj.map #[] 0)) := ((Off.refl _ _).set (.inl (.inl rfl)) _).alloc _
    have o0 : ((W.setCell ⟨p, 2, none⟩ (.map (some W.heap.size))).alloc (Obj.map #[] 0)).ownsMap Try.prog 9 fileTok W.heap.size 0 (mapD []) := by
      have hh := World.ownsMap_made (W.setCell ⟨p, 2, none⟩ (.map (some W.heap.size))) Try.prog 9 fileTok
      rw [show (W.setCell ⟨p, 2, none⟩ (.map (some W.heap.size))).heap.size = W.heap.size by simp [World.setCell]] at hh
      exact hh
    have c0 : ((W.setCell ⟨p, 2, none⟩ (.map (some W.heap.size))).alloc (Obj.map #[] 0)).cell? ⟨p, 2, none⟩ = some (.map (some W.heap.size)) := (b0.cell 2).trans rfl
    have B0 := Lib.hid b0
    have F0 := Lib.hid f0
    have hpg : p ≠ W.heap.size := by omega
    have hp1 := b0.lt
    clear b0 f0
    go_wp2_with fail
    generalize hW1 : ((W.setCell ⟨p, 2, none⟩ (.map (some W.heap.size))).alloc (Obj.map #[] 0)) = W1 at *
    go_region_held3 (fun w => w.cell? ⟨p, 2, none⟩ = some (.map (some W.heap.size)))
      (first | exact c0 | exact cell_later (w := W1.drew) c0 hp1 (by assumption) | exact cell_grown (cell_later (w := W1.drew) c0 hp1 (by assumption)) (Nat.lt_of_lt_of_le hp1 (Below.size (w := W1.drew) (by assumption))) (V.out _ (by assumption)).2 hpg)
      (first | ((with_reducible refine (hc _).mono ?_); rintro e w5 ⟨rfl, hb5⟩; have own5 := map_later o0.drew hb5))
    all_goals
      go_end0
      obtain ⟨v1, v2⟩ := V.out _ own5
      refine ⟨rfl, W.heap.size, ?_, box_grown (Box.later (w := W1.drew) B0.out hb5) v2 hpg, ((F0.out.drew).later hb5).grown v2 (fun k e hk => ?_), .inr (Nat.le_refl _)⟩
      · rw [h2]
        exact v1
      · have : W.heap.size = k := by injection e
        omega
  · rw [h1] at y2
    unfold dp
    have hnn : d.F.length < maxLen := by unfold maxLen; omega
    have hpg : p ≠ m := fun e => hmp m h1 e.symm
    have e1 : dkC { d with map := some m } = dkC d := by rw [← h1]
    obtain ⟨U, hU, hV⟩ := upd_fun m d.F.length d.F n f hf (by unfold maxLen; omega) hnn hnew
    have V := Lib.hid hV
    have O2 := Lib.hid h1
    clear h hnew hV h1
    have q1 := map_not m
    go_enter Try.func39, Try.ntmps39
    go_wp2_with fail
    go_region_held3 (fun w => w.cell? ⟨p, 2, none⟩ = some (.map (some m)))
      (first | exact y2 | exact cell_later (w := W.drew) y2 hp (by assumption) | exact cell_grown (cell_later (w := W.drew) y2 hp (by assumption)) (Nat.lt_of_lt_of_le hp (Below.size (w := W.drew) (by assumption))) (V.out _ (by assumption)).2 hpg)
      (first | ((with_reducible refine (hc _).mono ?_); rintro e w5 ⟨rfl, hb5⟩; have own5 := map_later h2.drew hb5))
    all_goals
      go_end0
      obtain ⟨v1, v2⟩ := V.out _ own5
      refine ⟨rfl, m, v1, ?_, (((Off.refl _ _).drew).later hb5).grown v2 (fun k e hk => .inr ?_), .inl O2.out⟩
      · rw [e1]
        exact box_grown (Box.later (w := W.drew) hbx hb5) v2 hpg
      · rw [O2.out]
        exact e
end Go.Proofs.Ytpdimmkacjilgaa
