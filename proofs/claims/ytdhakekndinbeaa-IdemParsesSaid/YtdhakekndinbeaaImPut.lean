/- idem: put, by a contract. No condition. -/
import Derived.Test.YtdhakekndinbeaaImRep
namespace Go.Proofs.Ytdhakekndinbeaa
open Go.RowKit Go.Maps Go.ChangeMaps Go.WideMaps
set_option linter.unusedVariables false
/-- One in its place by its number. -/
def insH (x : HE) : List HE → List HE
  | [] => [x]
  | y :: r => if x.id < y.id then x :: y :: r else y :: insH x r
def putF (x : HE) (F : List HE) : List HE := insH x (F.filter fun h => !decide (h.id = x.id))
theorem insert_entP (x : HE) : ∀ F : List HE, DataW.insert (entP x) (F.map entP) = (insH x F).map entP
  | [] => rfl
  | y :: r => by
    have ih := insert_entP x r
    show (if (entP x).1.before (entP y).1 then _ else _) = _
    unfold insH
    have e : (entP x).1.before (entP y).1 = decide (x.id < y.id) := rfl
    rw [e]
    by_cases h : x.id < y.id
    · rw [decide_eq_true h, if_pos rfl, if_pos h]; rfl
    · rw [decide_eq_false h, if_neg (by simp), if_neg h, List.map_cons, ih]
theorem filter_entP (n : Int) (F : List HE) : (F.map entP).filter (fun q => !q.1.sameKey (.int .i64 n)) = (F.filter fun h => !decide (h.id = n)).map entP := by
  rw [List.filter_map]
  congr 1
  refine List.filter_congr fun h _ => ?_
  show (!decide (_ ∧ _)) = _
  simp
theorem mapP_put (F : List HE) (x : HE) : (mapP F).put (.int .i64 x.id) (.lit (.int .i64 (x.blk : Int))) = mapP (putF x F) := by
  unfold mapP DataW.put putF
  simp only
  rw [filter_entP]
  exact congrArg DataW.map (insert_entP x _)
theorem insH_perm (x : HE) : ∀ F : List HE, (insH x F).Perm (x :: F)
  | [] => List.Perm.refl _
  | y :: r => by
    unfold insH
    split
    · exact List.Perm.refl _
    · exact ((insH_perm x r).cons y).trans (List.Perm.swap x y r)
theorem insH_mem {x g : HE} {F : List HE} : g ∈ insH x F ↔ g = x ∨ g ∈ F := by rw [(insH_perm x F).mem_iff, List.mem_cons]
theorem insH_rise {x : HE} : ∀ {F : List HE}, F.Pairwise (fun a b => a.id < b.id) → (∀ g ∈ F, g.id ≠ x.id) → (insH x F).Pairwise fun a b => a.id < b.id
  | [], _, _ => List.pairwise_singleton _ _
  | y :: r, h, hn => by
    unfold insH
    rw [List.pairwise_cons] at h
    split
    · rename_i hlt
      rw [List.pairwise_cons, List.pairwise_cons]
      refine ⟨fun g hg => ?_, h⟩
      rcases List.mem_cons.1 hg with rfl | hg
      · exact hlt
      · have := h.1 g hg; omega
    · rename_i hlt
      rw [List.pairwise_cons]
      refine ⟨fun g hg => ?_, insH_rise h.2 (fun g hg => hn g (by simp [hg]))⟩
      rcases insH_mem.1 hg with rfl | hg
      · have := hn y (by simp); omega
      · exact h.1 g hg
theorem insH_pair {R : HE → HE → Prop} {x : HE} : ∀ {F : List HE}, F.Pairwise R → (∀ g ∈ F, R x g ∧ R g x) → (insH x F).Pairwise R
  | [], _, _ => List.pairwise_singleton _ _
  | y :: r, h, hn => by
    unfold insH
    rw [List.pairwise_cons] at h
    split
    · rw [List.pairwise_cons, List.pairwise_cons]
      exact ⟨fun g hg => (hn g hg).1, h⟩
    · rw [List.pairwise_cons]
      refine ⟨fun g hg => ?_, insH_pair h.2 (fun g hg => hn g (by simp [hg]))⟩
      rcases insH_mem.1 hg with rfl | hg
      · exact (hn y (by simp)).2
      · exact h.1 g hg
theorem putF_mem {x g : HE} {F : List HE} : g ∈ putF x F ↔ g = x ∨ (g ∈ F ∧ g.id ≠ x.id) := by
  unfold putF
  rw [insH_mem, List.mem_filter]
  simp
theorem putF_len (x : HE) (F : List HE) : (putF x F).length ≤ F.length + 1 := by
  unfold putF
  rw [(insH_perm x _).length_eq, List.length_cons]
  have := List.length_filter_le (fun h : HE => !decide (h.id = x.id)) F
  omega
theorem map_tight {w : World} {k : TypeId} {b n : Nat} {F : List HE} (h : w.ownsMap Try.prog k tokP b n (mapP F)) : w.ownsMap Try.prog k tokP b F.length (mapP F) := by
  obtain ⟨es, clock, hb, Ft, hs, hD⟩ := h
  refine ⟨es, clock, hb, Ft, ?_, hD⟩
  have e : F.map entP = (es.toList.map (Go.WideElems.rg Try.prog k tokP)).foldr DataW.insert [] := by
    unfold mapP at hD
    injection hD
  have := congrArg List.length e
  rw [length_sorted] at this
  simp at this
  omega
theorem map_nil (w : World) : (binOp BinOp.eql 56 (.map none) (.map none)).run Try.prog w = .ok (.bool true) w := by kernel_rfl
theorem map_not (m : Nat) (w : World) : (binOp BinOp.eql 56 (.map (some m)) (.map none)).run Try.prog w = .ok (.bool false) w := by kernel_rfl
theorem make_map (w : World) : (Instr.makeMap 56 none).run Try.prog w = .ok (.map (some w.heap.size)) (w.alloc (.map #[] 0)) := by
  first
    | rfl
    | exact run_makeMap _ _ 
/-- The store into the map, as one world's turn into another. -/
theorem upd_fun (g nn : Nat) (F : List HE) (x : HE) (hx : i64B x.id) (hnn : nn < maxLen) :
    ∃ U : World → World, (∀ w : World, w.ownsMap Try.prog 3 tokP g nn (mapP F) → (Instr.mapUpdate 56 (.map (some g)) (.int .i64 x.id) (.pointer (some ⟨x.blk, 0, none⟩))).run Try.prog w = .ok () (U w)) ∧
      ∀ w : World, w.ownsMap Try.prog 3 tokP g nn (mapP F) → (U w).ownsMap Try.prog 3 tokP g (putF x F).length (mapP (putF x F)) ∧ w.grownBy (U w) (some g) := by
  have key : ∀ w : World, w.ownsMap Try.prog 3 tokP g nn (mapP F) → ∃ w' : World, (Instr.mapUpdate 56 (.map (some g)) (.int .i64 x.id) (.pointer (some ⟨x.blk, 0, none⟩))).run Try.prog w = .ok () w' ∧ w'.ownsMap Try.prog 3 tokP g (putF x F).length (mapP (putF x F)) ∧ w.grownBy w' (some g) := by
    intro w h
    obtain ⟨w', h1, h2, h3⟩ := h.update (int_keyed Try.underlying3) Try.underlying56 hnn (keyOf_int_mk Try.underlying3 (wf_i64 hx)) (val := .pointer (some ⟨x.blk, 0, none⟩)) (d := .lit (.int .i64 (x.blk : Int))) (ps := []) rfl
    rw [mapP_put F x] at h2
    exact ⟨w', h1, map_tight h2, h3⟩
  classical
  refine ⟨fun w => if h : w.ownsMap Try.prog 3 tokP g nn (mapP F) then Classical.choose (key w h) else w, fun w h => ?_, fun w h => ?_⟩
  · simp only [dif_pos h]
    exact (Classical.choose_spec (key w h)).1
  · simp only [dif_pos h]
    exact (Classical.choose_spec (key w h)).2
theorem box_ne_map {w : World} {b g n : Nat} {t k : TypeId} {cs : Array Value} {D : DataW Unit} {R : Value → Option (DataW Unit × List MemPlace)} (h : Box w b t cs) (hm : w.ownsMap Try.prog k R g n D) : b ≠ g := by
  rintro rfl
  obtain ⟨es, clock, hb, _⟩ := hm
  unfold Box at h
  rw [h] at hb
  cases hb
theorem box_ne {w : World} {b b' : Nat} {t t' : TypeId} {cs cs' : Array Value} (h : Box w b t cs) (h' : Box w b' t' cs') (hne : t ≠ t') : b ≠ b' := by
  rintro rfl
  unfold Box at h h'
  rw [h] at h'
  injection h' with h'
  injection h' with _ h2 _
  exact hne h2
/-- What a put leaves. -/
def Puts (W : World) (p : Nat) (m : Option Nat) (F : List HE) (x : HE) (e : Ending) (w' : World) : Prop :=
  e = .returned (.tuple #[]) ∧ ∃ g, PdIs w' p (some g) (putF x F) ∧ Off (fun k => k = p ∨ m = some k) W w' ∧ (m = some g ∨ W.heap.size ≤ g)
theorem PdIs.put {W w' : World} {p g : Nat} {m : Option Nat} {F : List HE} {x : HE} (h : PdIs W p m F) (hx : HeIn W x) (hxb : ∀ y ∈ F, y.id ≠ x.id → y.blk ≠ x.blk) (hb : Box w' p 58 #[.map (some g)]) (hm : w'.ownsMap Try.prog 3 tokP g (putF x F).length (mapP (putF x F))) (ho : Off (fun k => k = p ∨ m = some k) W w') : PdIs w' p (some g) (putF x F) := by
  have keep : ∀ y : HE, HeIn W y → HeIn w' y := fun y hy => ⟨⟨hy.pr.box.off ho (by
    rintro (e | e)
    · exact box_ne hy.pr.box h.box (by decide) e
    · rcases h.map with ⟨h1, _⟩ | ⟨g', h1, h2⟩
      · rw [h1] at e; cases e
      · rw [h1] at e
        injection e with e
        exact box_ne_map hy.pr.box h2 e.symm), hy.pr.f5, hy.pr.c5⟩, hy.ok, hy.id⟩
  refine ⟨hb, .inr ⟨g, rfl, hm⟩, fun y hy => ?_, ?_, ?_⟩
  · rcases putF_mem.1 hy with rfl | ⟨hy, _⟩
    · exact keep _ hx
    · exact keep _ (h.all y hy)
  · refine insH_pair (h.blks.sublist List.filter_sublist) fun y hy => ?_
    obtain ⟨hy1, hy2⟩ := List.mem_filter.1 hy
    have hne := hxb y hy1 (by simpa using hy2)
    exact ⟨fun e => hne e.symm, hne⟩
  · refine insH_rise (h.rise.sublist List.filter_sublist) fun y hy => ?_
    obtain ⟨_, hy2⟩ := List.mem_filter.1 hy
    simpa using hy2
set_option maxHeartbeats 4000000 in
set_option maxRecDepth 100000 in
theorem iput_c (p : Nat) (m : Option Nat) (F : List HE) (x : HE) (W : World) (h : PdIs W p m F) (hx : HeIn W x) (hxb : ∀ y ∈ F, y.id ≠ x.id → y.blk ≠ x.blk) (hl : F.length ≤ 1000000) :
    Calls Try.prog 30 #[dp p, .int .i64 x.id, dp x.blk] W (Puts W p m F x) := by
  have hid : i64B x.id := by have := hx.id; unfold i64B; omega
  have y0 : W.cell? ⟨p, 0, none⟩ = some (.map m) := (h.box.cell 0).trans rfl
  have f0 := h.box.frozen 0
  have hbx := h.box
  have hp := hbx.lt
  have HP := Lib.hid (fun g w' hb hm ho => PdIs.put (w' := w') (g := g) h hx hxb hb hm ho)
  rcases h.map with ⟨h1, h2⟩ | ⟨g, h1, h2⟩
  · subst h1
    subst h2
    unfold dp
    clear h hx hxb
    have q1 := map_nil
    have q2 : ∀ w : World, (Instr.makeMap 56 none).run Try.prog w = .ok (.map (some w.heap.size)) (w.alloc (.map #[] 0)) := fun w => make_map w
    obtain ⟨U, hU, hV⟩ := upd_fun W.heap.size 0 [] x hid (by unfold maxLen; omega)
    have V := Lib.hid hV
    clear hV
    have o0 : ((W.setCell ⟨p, 0, none⟩ (.map (some W.heap.size))).alloc (Obj.map #[] 0)).ownsMap Try.prog 3 tokP W.heap.size 0 (mapP []) := by
      have hh := World.ownsMap_made (W.setCell ⟨p, 0, none⟩ (.map (some W.heap.size))) Try.prog 3 tokP
      rw [show (W.setCell ⟨p, 0, none⟩ (.map (some W.heap.size))).heap.size = W.heap.size by simp [World.setCell]] at hh
      exact hh
    have b0 : Box ((W.setCell ⟨p, 0, none⟩ (.map (some W.heap.size))).alloc (Obj.map #[] 0)) p 58 #[.map (some W.heap.size)] := (hbx.set 0 (.map (some W.heap.size))).alloc _
    have F0 : Hid (Off (fun k => k = p ∨ (none : Option Nat) = some k) W ((W.setCell ⟨p, 0, none⟩ (.map (some W.heap.size))).alloc (Obj.map #[] 0))) := Lib.hid (((Off.refl _ W).set (.inl (.inl rfl)) _).alloc _)
    have c0 : ((W.setCell ⟨p, 0, none⟩ (.map (some W.heap.size))).alloc (Obj.map #[] 0)).cell? ⟨p, 0, none⟩ = some (.map (some W.heap.size)) := (b0.cell 0).trans rfl
    have B0 := Lib.hid b0
    have O0 := Lib.hid o0
    have hU0 := hU _ o0
    have hpg : p ≠ W.heap.size := by omega
    clear b0 hbx o0
    go_enter Try.func30, Try.ntmps30
    go_wp2_with fail
    go_end0
    obtain ⟨v1, v2⟩ := V.out _ O0.out
    have hbw : Box (U ((W.setCell ⟨p, 0, none⟩ (.map (some W.heap.size))).alloc (Obj.map #[] 0))) p 58 #[.map (some W.heap.size)] := (v2.block p B0.out.lt (fun e => hpg (Option.some.inj e))).trans B0.out
    have how : Off (fun k => k = p ∨ (none : Option Nat) = some k) W (U ((W.setCell ⟨p, 0, none⟩ (.map (some W.heap.size))).alloc (Obj.map #[] 0))) := F0.out.grown v2 (fun k e hk => absurd hk (by injection e; omega))
    exact ⟨rfl, W.heap.size, HP.out _ _ hbw v1 how, how, .inr (Nat.le_refl _)⟩
  · subst h1
    unfold dp
    have hnn : F.length < maxLen := by unfold maxLen; omega
    have hpg := box_ne_map hbx h2
    obtain ⟨U, hU, hV⟩ := upd_fun g F.length F x hid hnn
    have V := Lib.hid hV
    have hU0 := hU _ h2
    have q1 := map_not g
    have H2 := Lib.hid h2
    have HB := Lib.hid hbx
    clear h hx hxb hV hbx h2
    go_enter Try.func30, Try.ntmps30
    go_wp2_with fail
    go_end0
    obtain ⟨v1, v2⟩ := V.out _ H2.out
    have hbw : Box (U W) p 58 #[.map (some g)] := (v2.block p HB.out.lt (fun e => hpg (Option.some.inj e))).trans HB.out
    have how : Off (fun k => k = p ∨ (some g) = some k) W (U W) := (Off.refl _ W).grown v2 (fun k e hk => .inr e)
    exact ⟨rfl, g, HP.out _ _ hbw v1 how, how, .inl rfl⟩
end Go.Proofs.Ytdhakekndinbeaa
