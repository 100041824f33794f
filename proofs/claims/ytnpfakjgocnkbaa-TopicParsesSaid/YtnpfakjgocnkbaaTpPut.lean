/- topic: put, by a contract; plain words on entries in their places. No condition. -/
import Derived.Test.YtnpfakjgocnkbaaTpRep
namespace Go.Proofs.Ytnpfakjgocnkbaa
open Go.RowKit Go.Maps Go.ChangeMaps Go.WideMaps
set_option linter.unusedVariables false
/-- One in its place by its name. -/
def insT (x : TE) : List TE → List TE
  | [] => [x]
  | y :: r => if bytesBefore x.name y.name then x :: y :: r else y :: insT x r
def minT (F : List TE) (n : List UInt8) : List TE := F.filter fun e => !(e.name == n)
def putT (x : TE) (F : List TE) : List TE := insT x (minT F x.name)
theorem insert_entT (x : TE) : ∀ F : List TE, DataW.insert (entT x) (F.map entT) = (insT x F).map entT
  | [] => rfl
  | y :: r => by
    have ih := insert_entT x r
    show (if (entT x).1.before (entT y).1 then _ else _) = _
    unfold insT
    have e : (entT x).1.before (entT y).1 = bytesBefore x.name y.name := rfl
    rw [e]
    split
    · rfl
    · simp only [List.map_cons, ih]
theorem filter_entT (n : List UInt8) (F : List TE) : (F.map entT).filter (fun q => !q.1.sameKey (.string n)) = (minT F n).map entT := by
  unfold minT
  rw [List.filter_map]
  rfl
theorem mapT_put (F : List TE) (x : TE) : (mapT F).put (.string x.name) (teD x) = mapT (putT x F) := by
  unfold mapT DataW.put putT
  simp only
  rw [filter_entT]
  exact congrArg DataW.map (insert_entT x _)
theorem mapT_del (F : List TE) (n : List UInt8) : (mapT F).del (.string n) = mapT (minT F n) := by
  unfold mapT DataW.del
  simp only
  rw [filter_entT]
theorem insT_perm (x : TE) : ∀ F : List TE, (insT x F).Perm (x :: F)
  | [] => List.Perm.refl _
  | y :: r => by
    unfold insT
    split
    · exact List.Perm.refl _
    · exact ((insT_perm x r).cons y).trans (List.Perm.swap x y r)
theorem insT_mem {x g : TE} {F : List TE} : g ∈ insT x F ↔ g = x ∨ g ∈ F := by rw [(insT_perm x F).mem_iff, List.mem_cons]
theorem insT_len (x : TE) (F : List TE) : (insT x F).length = F.length + 1 := by rw [(insT_perm x F).length_eq, List.length_cons]
theorem bytes_trans' {a b c : List UInt8} (h : bytesBefore a b = true) (k : bytesBefore b c = true) : bytesBefore a c = true := Go.WideShapes.bytes_trans a b c h k
theorem insT_rise {x : TE} : ∀ {F : List TE}, F.Pairwise (fun a b => bytesBefore a.name b.name = true) → (∀ g ∈ F, g.name ≠ x.name) → (insT x F).Pairwise fun a b => bytesBefore a.name b.name = true
  | [], _, _ => List.pairwise_singleton _ _
  | y :: r, h, hn => by
    unfold insT
    rw [List.pairwise_cons] at h
    split
    · rename_i hlt
      rw [List.pairwise_cons, List.pairwise_cons]
      refine ⟨fun g hg => ?_, h⟩
      rcases List.mem_cons.1 hg with rfl | hg
      · exact hlt
      · exact bytes_trans' hlt (h.1 g hg)
    · rename_i hlt
      rw [List.pairwise_cons]
      refine ⟨fun g hg => ?_, insT_rise h.2 (fun g hg => hn g (by simp [hg]))⟩
      rcases insT_mem.1 hg with rfl | hg
      · rcases Go.WideAt.bytes_total g.name y.name (fun e => hn y (by simp) e.symm) with q | q
        · exact absurd q hlt
        · exact q
      · exact h.1 g hg
theorem minT_mem {F : List TE} {n : List UInt8} {g : TE} : g ∈ minT F n ↔ g ∈ F ∧ g.name ≠ n := by
  unfold minT
  rw [List.mem_filter]
  simp
theorem minT_len (F : List TE) (n : List UInt8) : (minT F n).length ≤ F.length := List.length_filter_le _ _
theorem minT_rise {F : List TE} {n : List UInt8} (h : F.Pairwise fun a b => bytesBefore a.name b.name = true) : (minT F n).Pairwise fun a b => bytesBefore a.name b.name = true := h.sublist List.filter_sublist
theorem minT_none {F : List TE} {n : List UInt8} (h : ofN F n = none) : minT F n = F := by
  unfold minT
  rw [List.filter_eq_self]
  intro e he
  have := List.find?_eq_none.1 h e he
  simpa using this
theorem putT_mem {x g : TE} {F : List TE} : g ∈ putT x F ↔ g = x ∨ (g ∈ F ∧ g.name ≠ x.name) := by
  unfold putT
  rw [insT_mem, minT_mem]
theorem putT_len (x : TE) (F : List TE) : (putT x F).length ≤ F.length + 1 := by
  unfold putT
  rw [insT_len]
  have := minT_len F x.name
  omega
theorem putT_rise {x : TE} {F : List TE} (h : F.Pairwise fun a b => bytesBefore a.name b.name = true) : (putT x F).Pairwise fun a b => bytesBefore a.name b.name = true :=
  insT_rise (minT_rise h) fun g hg => (minT_mem.1 hg).2
theorem map_tight {w : World} {k : TypeId} {b n : Nat} {F : List TE} (h : w.ownsMap Try.prog k tokT b n (mapT F)) : w.ownsMap Try.prog k tokT b F.length (mapT F) := by
  obtain ⟨es, clock, hb, Ft, hs, hD⟩ := h
  refine ⟨es, clock, hb, Ft, ?_, hD⟩
  have e : F.map entT = (es.toList.map (Go.WideElems.rg Try.prog k tokT)).foldr DataW.insert [] := by
    unfold mapT at hD
    injection hD
  have := congrArg List.length e
  rw [length_sorted] at this
  simp at this
  omega
theorem map_nil (w : World) : (binOp BinOp.eql 54 (.map none) (.map none)).run Try.prog w = .ok (.bool true) w := by kernel_rfl
theorem map_not (m : Nat) (w : World) : (binOp BinOp.eql 54 (.map (some m)) (.map none)).run Try.prog w = .ok (.bool false) w := by kernel_rfl
theorem make_map (w : World) : (Instr.makeMap 54 none).run Try.prog w = .ok (.map (some w.heap.size)) (w.alloc (.map #[] 0)) := by
  first
    | rfl
    | exact run_makeMap _ _ 
/-- The store into the map, as one world's turn into another. -/
theorem upd_fun (g nn : Nat) (F : List TE) (n : ByteArray) (x : TE) (hx : x.name = n.data.toList) (hn : n.size ≤ maxLen) (hnn : nn < maxLen) :
    ∃ U : World → World, (∀ w : World, w.ownsMap Try.prog 9 tokT g nn (mapT F) → (Instr.mapUpdate 54 (.map (some g)) (.string n) (.agg #[.int .i64 x.id, .int .i64 x.parts])).run Try.prog w = .ok () (U w)) ∧
      ∀ w : World, w.ownsMap Try.prog 9 tokT g nn (mapT F) → (U w).ownsMap Try.prog 9 tokT g (putT x F).length (mapT (putT x F)) ∧ w.grownBy (U w) (some g) := by
  have key : ∀ w : World, w.ownsMap Try.prog 9 tokT g nn (mapT F) → ∃ w' : World, (Instr.mapUpdate 54 (.map (some g)) (.string n) (.agg #[.int .i64 x.id, .int .i64 x.parts])).run Try.prog w = .ok () w' ∧ w'.ownsMap Try.prog 9 tokT g (putT x F).length (mapT (putT x F)) ∧ w.grownBy w' (some g) := by
    intro w h
    obtain ⟨w', h1, h2, h3⟩ := h.update (string_keyed Try.underlying9) Try.underlying54 hnn (keyOf_string_mk Try.underlying9 hn) (val := .agg #[.int .i64 x.id, .int .i64 x.parts]) (d := teD x) (ps := []) rfl
    rw [← hx, mapT_put F x] at h2
    exact ⟨w', h1, map_tight h2, h3⟩
  classical
  refine ⟨fun w => if h : w.ownsMap Try.prog 9 tokT g nn (mapT F) then Classical.choose (key w h) else w, fun w h => ?_, fun w h => ?_⟩
  · simp only [dif_pos h]
    exact (Classical.choose_spec (key w h)).1
  · simp only [dif_pos h]
    exact (Classical.choose_spec (key w h)).2
theorem box_ne_map {w : World} {b g n : Nat} {t k : TypeId} {cs : Array Value} {D : DataW Unit} {R : Value → Option (DataW Unit × List MemPlace)} (h : Box w b t cs) (hm : w.ownsMap Try.prog k R g n D) : b ≠ g := by
  rintro rfl
  obtain ⟨es, clock, hb, _⟩ := hm
  unfold Box at h
  rw [h] at hb
  cases hb
theorem box_ne {w : World} {b b' : Nat} {t t' : TypeId} {cs cs' : Array Value} (h : Box w b t cs) (h' : Box w b' t' cs') (hne : t ≠ t') : b ≠ b' := by
  rintro rfl
  unfold Box at h h'
  rw [h] at h'
  injection h' with h'
  injection h' with _ h2 _
  exact hne h2
theorem box_grown {w w' : World} {p g : Nat} {t : TypeId} {cs : Array Value} (h : Box w p t cs) (hg : w.grownBy w' (some g)) (hne : p ≠ g) : Box w' p t cs :=
  (hg.block p h.lt (fun e => hne (by injection e))).trans h
/-- What a put leaves. -/
def Puts (W : World) (p : Nat) (m : Option Nat) (n : Int) (F : List TE) (x : TE) (e : Ending) (w' : World) : Prop :=
  e = .returned (.tuple #[]) ∧ ∃ g, TbIs w' p (some g) n (putT x F) ∧ Off (fun k => k = p ∨ m = some k) W w' ∧ (m = some g ∨ W.heap.size ≤ g)
set_option maxHeartbeats 4000000 in
set_option maxRecDepth 100000 in
theorem tput_c (p : Nat) (m : Option Nat) (n : Int) (F : List TE) (s : ByteArray) (x : TE) (W : World) (h : TbIs W p m n F) (hx : x.name = s.data.toList) (hs : s.size ≤ maxLen) (hl : F.length ≤ 1000000) :
    Calls Try.prog 24 #[dp p, .string s, .agg #[.int .i64 x.id, .int .i64 x.parts]] W (Puts W p m n F x) := by
  obtain ⟨_, y1, _⟩ := h.cells
  have f1 := h.box.frozen 1
  have hbx := h.box
  have hp := hbx.lt
  have HR := Lib.hid (putT_rise (x := x) h.rise)
  have hcx : Below W.heap.size W (W.alloc (.cells #[.int .i64 x.id, .int .i64 x.parts] 59)) := (Below.refl _ _).alloc (Nat.le_refl _) _
  have hnew := Box.new W 59 #[.int .i64 x.id, .int .i64 x.parts]
  have hp1 : p < (W.alloc (.cells #[.int .i64 x.id, .int .i64 x.parts] 59)).heap.size := by rw [World.size_alloc]; omega
  have hbA := hbx.later hcx
  have hpe : p ≠ W.heap.size := Nat.ne_of_lt hp
  rcases h.map with ⟨h1, h2⟩ | ⟨g, h1, h2⟩
  · subst h1
    subst h2
    unfold dp
    clear h
    have q1 := map_nil
    have q2 : ∀ w : World, (Instr.makeMap 54 none).run Try.prog w = .ok (.map (some w.heap.size)) (w.alloc (.map #[] 0)) := fun w => make_map w
    have hcs : (W.setCell ⟨p, 1, none⟩ (.map (some (W.heap.size + 1)))).heap.size = W.heap.size := by simp [World.setCell]
    have hz1 : ((W.setCell ⟨p, 1, none⟩ (.map (some (W.heap.size + 1)))).alloc (.cells #[.int .i64 x.id, .int .i64 x.parts] 59)).heap.size = W.heap.size + 1 := by rw [World.size_alloc, hcs]
    have o1 : (((W.setCell ⟨p, 1, none⟩ (.map (some (W.heap.size + 1)))).alloc (.cells #[.int .i64 x.id, .int .i64 x.parts] 59)).alloc (Obj.map #[] 0)).drew.ownsMap Try.prog 9 tokT (W.heap.size + 1) 0 (mapT []) := by
      have hh := World.ownsMap_made ((W.setCell ⟨p, 1, none⟩ (.map (some (W.heap.size + 1)))).alloc (.cells #[.int .i64 x.id, .int .i64 x.parts] 59)) Try.prog 9 tokT
      rw [hz1] at hh
      exact hh.drew
    have b1 : Box (((W.setCell ⟨p, 1, none⟩ (.map (some (W.heap.size + 1)))).alloc (.cells #[.int .i64 x.id, .int .i64 x.parts] 59)).alloc (Obj.map #[] 0)).drew p 56 #[.int .i64 n, .map (some (W.heap.size + 1))] := (((hbx.set 1 (.map (some (W.heap.size + 1)))).alloc _).alloc _).drew
    have F1 : Hid (Off (fun k => k = p ∨ (none : Option Nat) = some k) W (((W.setCell ⟨p, 1, none⟩ (.map (some (W.heap.size + 1)))).alloc (.cells #[.int .i64 x.id, .int .i64 x.parts] 59)).alloc (Obj.map #[] 0)).drew) := Lib.hid (((((Off.refl _ W).set (.inl (.inl rfl)) _).alloc _).alloc _).drew)
    have c1 := (b1.cell 1).trans (show _ = some (Value.map (some (W.heap.size + 1))) from rfl)
    have e1 : Box (((W.setCell ⟨p, 1, none⟩ (.map (some (W.heap.size + 1)))).alloc (.cells #[.int .i64 x.id, .int .i64 x.parts] 59)).alloc (Obj.map #[] 0)).drew W.heap.size 59 #[.int .i64 x.id, .int .i64 x.parts] := by
      have hh := Box.new (W.setCell ⟨p, 1, none⟩ (.map (some (W.heap.size + 1)))) 59 #[.int .i64 x.id, .int .i64 x.parts]
      rw [hcs] at hh
      exact (hh.alloc _).drew
    have c2 := (e1.cell 0).trans (show _ = some (Value.int .i64 x.id) from rfl)
    have c3 := (e1.cell 1).trans (show _ = some (Value.int .i64 x.parts) from rfl)
    obtain ⟨U, hU, hV⟩ := upd_fun (W.heap.size + 1) 0 [] s x hx hs (by unfold maxLen; omega)
    have hU0 := hU _ o1
    have V := Lib.hid hV
    have O1 := Lib.hid o1
    have B1 := Lib.hid b1
    clear hcx hnew hbA hbx hcs hz1 o1 b1 e1 hU hV
    go_enter Try.func24, Try.ntmps24
    go_wp2_with fail
    go_region
    all_goals
      go_end0
      obtain ⟨v1, v2⟩ := V.out _ O1.out
      exact ⟨rfl, W.heap.size + 1, ⟨box_grown B1.out v2 (by omega), .inr ⟨_, rfl, v1⟩, HR.out⟩, F1.out.grown v2 (fun k e hk => absurd hk (by injection e; omega)), .inr (by omega)⟩
  · subst h1
    unfold dp
    have hnn : F.length < maxLen := by unfold maxLen; omega
    have hpg := box_ne_map hbx h2
    obtain ⟨U, hU, hV⟩ := upd_fun g F.length F s x hx hs hnn
    have o1 := (map_off h2 (Off.of_below (fun _ => False) hcx) (fun x => x)).drew
    have b1 := hbA.drew
    have V := Lib.hid hV
    have hU0 := hU _ o1
    have q1 := map_not g
    have O1 := Lib.hid o1
    have B1 := Lib.hid b1
    have HC := Lib.hid hcx
    clear h hV hbA hbx h2 hcx hnew o1 b1 hU
    go_enter Try.func24, Try.ntmps24
    go_wp2_with fail
    go_region
    all_goals
      go_end0
      obtain ⟨v1, v2⟩ := V.out _ O1.out
      exact ⟨rfl, g, ⟨box_grown B1.out v2 hpg, .inr ⟨_, rfl, v1⟩, HR.out⟩, ((Off.of_below _ HC.out).drew).grown v2 (fun k e hk => .inr e), .inl rfl⟩
end Go.Proofs.Ytnpfakjgocnkbaa
