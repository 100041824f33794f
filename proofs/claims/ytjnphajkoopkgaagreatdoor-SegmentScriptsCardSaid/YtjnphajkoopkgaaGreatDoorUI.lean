/- Merged texts. What each proves is told at its head. -/
import Derived.Below
import Derived.ChangeSame
import Derived.ProofKit
import Derived.OpenShut
import Derived.WideKeyArgs
import Derived.Test.YtjnphajkoopkgaaGreatDoorCards
import Derived.Test.YtjnphajkoopkgaaGreatDoorTie
import Derived.Test.YtjnphajkoopkgaaGreatDoorUP
import Derived.LaidMore
import Derived.Deep.DeepHandedRow
import Derived.Lib.LaidTab
import Derived.Test.YtjnphajkoopkgaaGreatDoorUB
import Derived.SizedLaws
import Derived.Deep.Slices
import Derived.Deep.Fields
import Derived.Test.YtjnphajkoopkgaaGreatDoorProg
import Derived.KernelRfl
import Derived.Test.YtjnphajkoopkgaaGreatDoorUBa
/- Plain laws for the frames of the proofs: what a law's last step asks where the call only made memory. No condition of its own. -/
namespace Go.Proofs.YtjnphajkoopkgaaGreatDoor
open Go.RowKit Go.WideShapes Go.ChangeShapes Go.WideMaps Go.WideElems
section
variable {H : Type} {enc : TypeId × Value → H} {P : Program}
theorem post_below {f : Func} {s : ChangeSpec} {apart fresh handsOn again : Bool} {W W' : World} {args : Array Value} {v : Value} {ds gs : List (DataW H)} {before pa pv : List MemPlace}
    (hW : DataW.Whole enc P f.params.toList s.vars apart W args.toList ds gs before)
    (hres : ∀ (b : Nat) (sp : Nat → Bool) (hd : Bool), DataW.TrodAll enc P W' b sp hd f.resultTypes.toList (v.resultList f.resultTypes.size) (s.fn H (ds ++ gs)).results [])
    (hargs : ∀ sp : Nat → Bool, (∀ p ∈ before, sp p.block = true) → DataW.TrodAll enc P W' 0 sp true f.params.toList args.toList (s.fn H (ds ++ gs)).args pa)
    (hvars : ∀ sp : Nat → Bool, (∀ p ∈ before, sp p.block = true) → DataW.TrodVars enc P W' sp s.vars (s.fn H (ds ++ gs)).vars pv)
    (hps : before = pa ++ pv) (hb : Below W.heap.size W W')
    (hok : ∀ (j : Nat) (t : TypeId) (r : Value), f.resultTypes[j]? = some t → (v.resultList f.resultTypes.size)[j]? = some r → Value.okWide P W' .any 0 t r) :
    s.post enc P f apart fresh handsOn again W args v W' := by
  have hlt : ∀ p ∈ before, p.block < W.heap.size := fun p hp => hW.lt p hp
  have hold : ∀ p ∈ before, (fun b => decide (b < W.heap.size)) p.block = true := fun p hp => by simpa using hlt p hp
  refine ⟨ds, gs, before, [], pa, pv, hW, hres _ _ _, hargs _ hold, hvars _ hold, World.keptBut_mono (fun p hp => ⟨hp, ?_⟩) (hb.frame (· ∈ before)), fun _ => ?_⟩
  · rw [hps, List.mem_append] at hp
    exact Or.inr hp
  · obtain ⟨_, _, _, _, _, hz, hn⟩ := hW
    refine ⟨hok, _, _, ([] ++ pa) ++ pv, ⟨[] ++ pa, pv, trodAll_append (hargs _ (fun _ _ => rfl)) (hres _ _ _), hvars _ (fun _ _ => rfl), rfl, ?_, ?_⟩, ?_⟩
    · intro b off hp
      have hin : MemPlace.cell b off ∈ before := by rw [hps]; simpa using hp
      rw [hb.frozen (hlt _ hin)]
      exact hz b off hin
    · intro ha
      have := hn ha
      rw [hps] at this
      simpa using this
    · intro p hp _
      rw [hps]
      simpa using hp
theorem trodAll_later {W W' : World} {sp : Nat → Bool} (hl : laidOutB P = true) (hb : Below W.heap.size W W') :
    ∀ {ts : List TypeId} {vs : List Value} {ds : List (DataW H)} {ps : List MemPlace}, (ts.all fun t => P.readableRec t && decide (t < P.types.size)) = true → DataW.TrodAll enc P W 0 (fun _ => true) true ts vs ds ps →
      (∀ p ∈ ps, p.block < W.heap.size) → (∀ p ∈ ps, sp p.block = true) → DataW.TrodAll enc P W' 0 sp true ts vs ds ps := by
  intro ts
  induction ts with
  | nil => intro vs ds ps _ h _ _; cases vs <;> cases ds <;> first | exact h | exact h.elim
  | cons t ts ih =>
    intro vs ds ps ht h hlt hsp
    cases vs with
    | nil => exact h.elim
    | cons v vs =>
      cases ds with
      | nil => exact h.elim
      | cons d ds =>
        obtain ⟨p, q, h1, h2, rfl⟩ := h
        simp only [List.all_cons, Bool.and_eq_true, decide_eq_true_eq] at ht
        refine ⟨p, q, Trod_stays hl ht.1.1 ht.1.2 h1 (fun x hx => hb.same (hlt x (by simp [hx]))) (fun x hx => hsp x (by simp [hx])), ?_, rfl⟩
        exact ih (by simpa using ht.2) h2 (fun x hx => hlt x (by simp [hx])) (fun x hx => hsp x (by simp [hx]))
theorem law_post {f : Func} {s : ChangeSpec} {apart fresh handsOn again : Bool} {W W' : World} {args : Array Value} {ds gs : List (DataW H)} {before : List MemPlace} {tb : TypeId}
    (hl : laidOutB P = true) (hp : (f.params.toList.all fun t => P.readableRec t && decide (t < P.types.size)) = true) (hb0 : P.underlying tb = some .bool) (hrt : f.resultTypes = #[tb])
    (hW : DataW.Whole enc P f.params.toList s.vars apart W args.toList ds gs before) (hvs : s.vars = [])
    (hres : (s.fn H (ds ++ gs)).results = [.lit (.bool true)]) (hargs : (s.fn H (ds ++ gs)).args = ds) (hvars : (s.fn H (ds ++ gs)).vars = [])
    (hb : Below W.heap.size W W') : s.post enc P f apart fresh handsOn again W args (.bool true) W' := by
  have hlt : ∀ p ∈ before, p.block < W.heap.size := fun p hp => hW.lt p hp
  have hW' := hW
  obtain ⟨p, q, hA, hV, rfl, _, _⟩ := hW'
  rw [hvs] at hV
  obtain ⟨rfl, rfl⟩ := trodVars_none hV
  refine post_below (pa := p) (pv := []) hW ?_ ?_ ?_ (by simp) hb ?_
  · intro b sp hd
    rw [hres, hrt]
    exact trodAll_cons_mk (shut_bool hb0 _) trodAll_mk0
  · intro sp hsp
    rw [hargs]
    exact trodAll_later hl hb hp hA (fun x hx => hlt x (by simp [hx])) (fun x hx => hsp x (by simp [hx]))
  · intro sp _
    rw [hvars, hvs]
    rfl
  · exact ok_one hrt rfl (okWide_bool_mk hb0 _)
end
end Go.Proofs.YtjnphajkoopkgaaGreatDoor
/- What every proof of batch's seat leans on: the table's cells out of the row's list, and a world that holds it. No condition. -/
namespace Go.Proofs.YtjnphajkoopkgaaGreatDoor
open Go.ChangeShapes Go.WideShapes Go.ChangeAt Go.RowKit
theorem own : ownKnob Tryz.prog.godebug = none := by kernel_rfl
theorem laidOut : laidOutB Tryz.prog = true := by kernel_rfl
theorem gTab : Tryz.prog.globalNamed "flotsam/crcc.nibbles" = some 0 := by kernel_rfl
theorem gTabType : (Tryz.prog.globals[0]?).map (·.type) = some 185 := by kernel_rfl
theorem cellsArr : Tryz.prog.cellsOf 185 = 16 := by kernel_rfl
theorem cellsU32 : Tryz.prog.cellsOf 133 = 1 := by kernel_rfl
theorem tab_of {W : World} (h : laidMetH Tryz.prog [("flotsam/crcc.nibbles", Rows.laid_flotsam_crcc_nibbles)] W) : Tab W := by
  have ht : Lib.TabIs Tryz.prog W "flotsam/crcc.nibbles" .u32 [0, 274646895, 549293790, 820201905, 1098587580, 1361435347, 1640403810, 1905808397, 2197175160, 2460548119, 2722870694, 2987750089, 3280807620, 3553878443, 3811616794, 4084100981] :=
    Lib.tabIs_of_head (rest := []) gTab gTabType Tryz.underlying185 Tryz.underlying133 cellsU32 cellsArr h
  intro i hi
  rw [ht.cell gTab i hi]
  have h : ∀ j : Fin 16, ([0, 274646895, 549293790, 820201905, 1098587580, 1361435347, 1640403810, 1905808397, 2197175160, 2460548119, 2722870694, 2987750089, 3280807620, 3553878443, 3811616794, 4084100981] : List Int).getD j.val 0 = ((CR.nib j.val : Nat) : Int) := by decide
  exact congrArg (fun z => some (Value.int .u32 z)) (h ⟨i, hi⟩)
noncomputable def startW (os : Os) : World := World.doorLaid Tryz.prog 400 os
end Go.Proofs.YtjnphajkoopkgaaGreatDoor
/- What an argument that is a struct, or a slice of structs, reads as; and how great its texts are. Plain words. No condition. -/
namespace Go.Proofs.YtjnphajkoopkgaaGreatDoor
open Go.RowKit Go.WideShapes Go.ChangeShapes Go.Deep
set_option linter.unusedVariables false
section
variable {H : Type} {enc : TypeId × Value → H} {P : Program} {w : World} {base : Nat} {sp : Nat → Bool} {held : Bool}
/-- None of a datum's parts is greater than what may be read. -/
def Weighs (P : Program) (t : TypeId) (d : DataW H) : Prop := ∀ n ∈ d.weights P t, n ≤ reachBytes
theorem reach_47 : reachBytes = 140737488351232 := by decide
theorem weighs_param {ts : List TypeId} {ds : List (DataW H)} (h : (DataW.weightsEach P ts ds).all (· ≤ reachBytes) = true) {j : Nat} {t : TypeId} {d : DataW H} (ht : ts[j]? = some t) (hd : ds[j]? = some d) : Weighs P t d := fun n hn => by
  have := List.all_eq_true.1 h _ (DataW.weights_mem_each ht hd n hn)
  simpa using this
theorem weighs_field {t : TypeId} {fs : Array Field} {parts : List (DataW H)} (hs : P.underlying t = some (.struct fs)) (h : Weighs P t (.agg parts)) {j : Nat} {f : Field} {d : DataW H} (hf : fs[j]? = some f) (hd : parts[j]? = some d) : Weighs P f.type d := fun n hn => by
  refine h n ?_
  simp only [DataW.weights, hs]
  refine DataW.weights_mem_each (j := j) ?_ hd n hn
  simp [hf]
theorem weightsAll_mem {e : TypeId} : ∀ {l : List (DataW H)} {i : Nat} {d : DataW H}, l[i]? = some d → ∀ n ∈ d.weights P e, n ∈ DataW.weightsAll P e l
  | [], _, _, h, _, _ => by simp at h
  | x :: l, 0, d, h, n, hn => by
    have : x = d := by simpa using h
    subst this
    simp only [DataW.weightsAll, List.mem_append]
    exact .inl hn
  | x :: l, i + 1, d, h, n, hn => by
    simp only [DataW.weightsAll, List.mem_append]
    exact .inr (weightsAll_mem (by simpa using h) n hn)
theorem weighs_elem {t e : TypeId} {elems spare : List (DataW H)} (hu : P.underlying t = some (.slice e)) (h : Weighs P t (.slice elems spare)) {i : Nat} {d : DataW H} (hd : elems[i]? = some d) : Weighs P e d := fun n hn => by
  refine h n ?_
  simp only [DataW.weights, hu, List.mem_cons, List.mem_append]
  exact .inr (.inl (weightsAll_mem hd n hn))
theorem weighs_len {t e : TypeId} {elems spare : List (DataW H)} (hu : P.underlying t = some (.slice e)) (h : Weighs P t (.slice elems spare)) : (elems.length + spare.length) * P.bytesOf e ≤ reachBytes := by
  refine h _ ?_
  simp only [DataW.weights, hu, List.mem_cons]
  exact .inl trivial
theorem weighs_str {t : TypeId} {s : ByteArray} (h : Weighs P t (.lit (.string s.data.toList) : DataW H)) : s.size ≤ 140737488351232 := by
  have := h s.size (by simp [DataW.weights])
  rwa [reach_47] at this
theorem addr_plain {a : Addr} {v : Value} (h : w.cell? (a.add 0) = some v) : ∃ b off, a = ⟨b, off, none⟩ ∧ b < w.heap.size := by
  obtain ⟨b, off, spot⟩ := a
  have hspot : spot = none := by simpa [Addr.add] using World.cell?_spot h
  subst hspot
  refine ⟨b, off, rfl, ?_⟩
  rcases Nat.lt_or_ge b w.heap.size with hlt | hge
  · exact hlt
  · exfalso
    simp [Addr.add, World.cell?, Array.getElem?_eq_none hge] at h
theorem add_at (b off i : Nat) : (⟨b, off, none⟩ : Addr).add i = ⟨b, off + i, none⟩ := by unfold Addr.add; split <;> simp_all
/-- A slice of structs of two texts. -/
theorem open_two {t e : TypeId} {f0 f1 : Field} {n : Nat} {x : Value} {y : DataW H × List MemPlace} (ht : P.underlying t = some (.slice e)) (he : P.underlying e = some (.struct #[f0, f1])) (hone : oneCellFields P #[f0, f1] = true)
    (hC : P.cellsOf e = 2) (hB : 32 ≤ P.bytesOf e) (h0 : P.underlying f0.type = some .string) (h1 : P.underlying f1.type = some .string) (h : DataW.trod enc P w base sp held n t [x] = some y) (hw : Weighs P t y.1) :
    ∃ A c, ∃ hs : List Hd, x = .slice A hs.length c ∧ HIn w A hs ∧ hs.length ≤ 140737488351232 ∧ ∀ z ∈ hs, z.1.size ≤ 140737488351232 ∧ z.2.size ≤ 140737488351232 := by
  rcases open_slice ht h with ⟨hcs, _⟩ | ⟨a, len, cap, m, n', D, Pl, hcs, _, hlc, _, hm, hx, hi⟩
  · have : x = .slice none 0 0 := by simpa using hcs
    exact ⟨none, 0, [], this, HIn.nil _ _, by simp, by simp⟩
  · have hxv : x = .slice (some a) len cap := by simpa using hcs
    have hlm : len ≤ m := by rw [hm]; split <;> omega
    have hD : y.1 = .slice ((List.range len).map D) ((List.range (m - len)).map fun j => D (len + j)) := by rw [hx]
    rw [hD] at hw
    have hlen := weighs_len ht hw
    rw [reach_47] at hlen
    simp only [List.length_map, List.length_range] at hlen
    have hl2 : len * 32 ≤ 140737488351232 := by
      refine Nat.le_trans ?_ hlen
      exact Nat.mul_le_mul (by omega) hB
    have key : ∀ i, i < len → ∃ s1 s2 : ByteArray, w.cell? (a.add (i * 2)) = some (.string s1) ∧ w.cell? (a.add (i * 2 + 1)) = some (.string s2) ∧ s1.size ≤ 140737488351232 ∧ s2.size ≤ 140737488351232 := by
      intro i hil
      obtain ⟨cs', hc, ht'⟩ := hi i (by omega)
      rw [hC] at hc
      obtain ⟨ys, n2, hn2, hy, hcl, hyl, hf⟩ := DataW.trod_struct he ht'
      obtain ⟨_, hcl2, hat⟩ := World.cells?_some hc
      simp only [Prod.mk.injEq] at hy
      have hwe : Weighs P e (D i) := weighs_elem ht hw (i := i) (by simp [hil])
      rw [hy.1] at hwe
      have hone' := hone_of hone
      have get : ∀ (j : Nat) (f : Field), (#[f0, f1] : Array Field)[j]? = some f → P.underlying f.type = some .string → j < 2 → ∃ s : ByteArray, w.cell? (a.add (i * 2 + j)) = some (.string s) ∧ s.size ≤ 140737488351232 := by
        intro j f hj hu hj2
        obtain ⟨ho, hk⟩ := hone' j f hj
        have q := hf j f hj
        rw [ho, hk] at q
        have e1 : (cs'.drop j).take 1 = [cs'[j]'(by omega)] := by
          rw [List.drop_eq_getElem_cons (by omega)]; rfl
        rw [e1] at q
        have hjl : j < ys.length := by rw [hyl]; exact hj2
        have hyj : ys[j]? = some ys[j] := List.getElem?_eq_getElem hjl
        rw [hyj] at q
        obtain ⟨s, hs1, hs2, _⟩ := DataW.trod_string hu q
        have hcell := hat j hj2
        have h3 : cs'[j]? = some (cs'[j]'(by omega)) := List.getElem?_eq_getElem (by omega)
        refine ⟨s, ?_, ?_⟩
        · rw [← Go.Deep.add_add, hcell, h3]
          simpa using hs1
        · have hwf := weighs_field he hwe hj (d := ys[j].1) (by simp [hyj])
          rw [hs2] at hwf
          exact weighs_str hwf
      obtain ⟨s1, q1, z1⟩ := get 0 f0 rfl h0 (by decide)
      obtain ⟨s2, q2, z2⟩ := get 1 f1 rfl h1 (by decide)
      exact ⟨s1, s2, q1, q2, z1, z2⟩
    have hex : ∃ F : Nat → Hd, ∀ i, i < len → w.cell? (a.add (i * 2)) = some (.string (F i).1) ∧ w.cell? (a.add (i * 2 + 1)) = some (.string (F i).2) ∧ (F i).1.size ≤ 140737488351232 ∧ (F i).2.size ≤ 140737488351232 := by
      refine ⟨fun i => if h : i < len then (Classical.choose (key i h), Classical.choose (Classical.choose_spec (key i h))) else (⟨#[]⟩, ⟨#[]⟩), fun i hil => ?_⟩
      simp only [dif_pos hil]
      exact Classical.choose_spec (Classical.choose_spec (key i hil))
    obtain ⟨F, hF⟩ := hex
    refine ⟨some a, cap, (List.range len).map F, by rw [hxv]; simp, fun hp => ?_, by simp; omega, fun z hz => ?_⟩
    · have hp' : 0 < len := by simpa using hp
      obtain ⟨b, off, rfl, hb⟩ := addr_plain (by have h0 := (hF 0 hp').1; rwa [Nat.zero_mul] at h0)
      refine ⟨b, off, rfl, hb, fun j z hz => ?_⟩
      obtain ⟨hj, hz2⟩ := List.getElem?_eq_some_iff.1 hz
      have hj' : j < len := by simpa using hj
      obtain ⟨q1, q2, _⟩ := hF j hj'
      rw [add_at] at q1 q2
      have : F j = z := by simpa using hz2
      subst this
      exact ⟨q1, by rw [Nat.add_assoc]; exact q2⟩
    · simp only [List.mem_map, List.mem_range] at hz
      obtain ⟨i, hi', rfl⟩ := hz
      exact ⟨(hF i hi').2.2.1, (hF i hi').2.2.2⟩
end
end Go.Proofs.YtjnphajkoopkgaaGreatDoor

/- What an argument that is a record reads as. No condition. -/
namespace Go.Proofs.YtjnphajkoopkgaaGreatDoor
open Go.RowKit Go.WideShapes Go.ChangeShapes Go.Deep
set_option linter.unusedVariables false
section
variable {H : Type} {enc : TypeId × Value → H} {w : World} {base : Nat} {sp : Nat → Bool} {held : Bool}
/-- All texts of a record are of a size that may be read. -/
structure RSmall (r : Rec) : Prop where
  key : r.key.size ≤ 140737488351232
  value : r.value.size ≤ 140737488351232
  each : ∀ z ∈ r.heads, z.1.size ≤ 140737488351232 ∧ z.2.size ≤ 140737488351232
end
end Go.Proofs.YtjnphajkoopkgaaGreatDoor

/- What an argument that is a batch reads as. No condition. -/
namespace Go.Proofs.YtjnphajkoopkgaaGreatDoor
open Go.RowKit Go.WideShapes Go.ChangeShapes Go.Deep Go.WideMaps Go.WideElems
set_option linter.unusedVariables false
section
variable {H : Type} {enc : TypeId × Value → H} {P : Program} {w : World} {base : Nat} {sp : Nat → Bool} {held : Bool}
theorem open_cells {t : TypeId} {fs : Array Field} {n : Nat} {cs' : List Value} {d : DataW H} {p : List MemPlace} (hs : P.underlying t = some (.struct fs)) (hone : oneCellFields P fs = true) (hl : cs'.length = fs.size)
    (ht' : DataW.trod enc P w base sp held n t cs' = some (d, p)) (hwe : Weighs P t d) :
    ∃ n2, ∀ (k : Nat) (f : Field), fs[k]? = some f → ∃ (x : Value) (z : DataW H × List MemPlace), cs'[k]? = some x ∧ DataW.trod enc P w base sp held n2 f.type [x] = some z ∧ Weighs P f.type z.1 := by
  obtain ⟨ys, n2, hn2, hy, hcl, hyl, hff⟩ := DataW.trod_struct hs ht'
  simp only [Prod.mk.injEq] at hy
  rw [hy.1] at hwe
  have hone' := hone_of hone
  refine ⟨n2, fun k f hk => ?_⟩
  obtain ⟨ho, hkk⟩ := hone' k f hk
  have q := hff k f hk
  rw [ho, hkk] at q
  have hkf : k < fs.size := (Array.getElem?_eq_some_iff.1 hk).1
  have e1 : (cs'.drop k).take 1 = [cs'[k]'(by omega)] := by
    rw [List.drop_eq_getElem_cons (by omega)]; rfl
  rw [e1] at q
  have hkl : k < ys.length := by rw [hyl]; exact hkf
  have hyk : ys[k]? = some ys[k] := List.getElem?_eq_getElem hkl
  rw [hyk] at q
  exact ⟨_, _, List.getElem?_eq_getElem (by omega), q, weighs_field hs hwe hk (d := ys[k].1) (by simp [hyk])⟩
end
section
variable {H : Type} {enc : TypeId × Value → H} {w : World} {base : Nat} {sp : Nat → Bool} {held : Bool}
set_option maxRecDepth 100000 in
theorem open_recs {n : Nat} {x : Value} {y : DataW H × List MemPlace} (h : DataW.trod enc Tryz.prog w base sp held n 42 [x] = some y) (hw : Weighs Tryz.prog 42 y.1) :
    ∃ A c, ∃ L : List RX, x = .slice A L.length c ∧ RsIn w A L ∧ L.length ≤ 140737488351232 := by
  rcases open_slice Tryz.underlying42 h with ⟨hcs, _⟩ | ⟨a, len, cap, m, n', D, Pl, hcs, _, hlc, _, hm, hx, hi⟩
  · have : x = .slice none 0 0 := by simpa using hcs
    exact ⟨none, 0, [], this, fun hp => by simp at hp, by simp⟩
  · have hxv : x = .slice (some a) len cap := by simpa using hcs
    have hlm : len ≤ m := by rw [hm]; split <;> omega
    have hD : y.1 = .slice ((List.range len).map D) ((List.range (m - len)).map fun j => D (len + j)) := by rw [hx]
    rw [hD] at hw
    have hlen := weighs_len Tryz.underlying42 hw
    rw [reach_47] at hlen
    simp only [List.length_map, List.length_range] at hlen
    have hl2 : len * 88 ≤ 140737488351232 := by
      refine Nat.le_trans ?_ hlen
      exact Nat.mul_le_mul (by omega) (by decide +kernel)
    have key : ∀ i, i < len → ∃ o : RX, (∀ j u, (recC o.1 o.2.1 o.2.2)[j]? = some u → w.cell? ((a.add (i * 7)).add j) = some u) ∧ RIn w o.1 o.2.1 o.2.2 := by
      intro i hil
      obtain ⟨cs', hc, ht'⟩ := hi i (by omega)
      rw [show Tryz.prog.cellsOf 85 = 7 by kernel_rfl] at hc
      obtain ⟨_, hcl2, hat⟩ := World.cells?_some hc
      have hwe : Weighs Tryz.prog 85 (D i) := weighs_elem Tryz.underlying42 hw (i := i) (by simp [hil])
      obtain ⟨n2, get⟩ := open_cells Tryz.underlying85 (by kernel_rfl) hcl2 ht' hwe
      obtain ⟨x0, y0, q0, t0, w0⟩ := get 0 _ rfl
      obtain ⟨x1, y1, q1, t1, w1⟩ := get 1 _ rfl
      obtain ⟨x2, y2, q2, t2, w2⟩ := get 2 _ rfl
      obtain ⟨x3, y3, q3, t3, w3⟩ := get 3 _ rfl
      obtain ⟨x4, y4, q4, t4, w4⟩ := get 4 _ rfl
      obtain ⟨x5, y5, q5, t5, w5⟩ := get 5 _ rfl
      obtain ⟨x6, y6, q6, t6, w6⟩ := get 6 _ rfl
      obtain ⟨n0, e0, _, _⟩ := DataW.trod_int Tryz.underlying3 t0
      obtain ⟨n1, e1, _, _⟩ := DataW.trod_int Tryz.underlying3 t1
      obtain ⟨n2, e2, _⟩ := DataW.trod_bool Tryz.underlying4 t2
      obtain ⟨n3, e3, z3, _⟩ := DataW.trod_string Tryz.underlying9 t3
      obtain ⟨n4, e4, _⟩ := DataW.trod_bool Tryz.underlying4 t4
      obtain ⟨n5, e5, z5, _⟩ := DataW.trod_string Tryz.underlying9 t5
      obtain ⟨A, c, hs, e6, hin, hl, hz⟩ := open_two Tryz.underlying83 Tryz.underlying87 (by kernel_rfl) (by kernel_rfl) (by decide +kernel) Tryz.underlying9 Tryz.underlying9 t6 w6
      rw [z3] at w3
      rw [z5] at w5
      have s3 := weighs_str w3
      have s5 := weighs_str w5
      obtain rfl : x0 = .int .i64 n0 := by simpa using e0
      obtain rfl : x1 = .int .i64 n1 := by simpa using e1
      obtain rfl : x2 = .bool n2 := by simpa using e2
      obtain rfl : x3 = .string n3 := by simpa using e3
      obtain rfl : x4 = .bool n4 := by simpa using e4
      obtain rfl : x5 = .string n5 := by simpa using e5
      subst e6
      refine ⟨(⟨n0, n1, n2, n3, n4, n5, hs⟩, A, c), fun j u hj => ?_, ⟨hin, hl, by simp only; omega, by simp only; omega, fun z hz' => by have := hz z hz'; omega⟩⟩
      have hj7 : j < 7 := (Array.getElem?_eq_some_iff.1 hj).1
      rw [hat j hj7]
      match j, hj7, hj with
      | 0, _, hj => rw [q0]; exact hj
      | 1, _, hj => rw [q1]; exact hj
      | 2, _, hj => rw [q2]; exact hj
      | 3, _, hj => rw [q3]; exact hj
      | 4, _, hj => rw [q4]; exact hj
      | 5, _, hj => rw [q5]; exact hj
      | 6, _, hj => rw [q6]; exact hj
    have hex : ∃ F : Nat → RX, ∀ i, i < len → (∀ j u, (recC (F i).1 (F i).2.1 (F i).2.2)[j]? = some u → w.cell? ((a.add (i * 7)).add j) = some u) ∧ RIn w (F i).1 (F i).2.1 (F i).2.2 := by
      classical
      refine ⟨fun i => if h : i < len then Classical.choose (key i h) else (⟨0, 0, false, ⟨#[]⟩, false, ⟨#[]⟩, []⟩, none, 0), fun i hil => ?_⟩
      simp only [dif_pos hil]
      exact Classical.choose_spec (key i hil)
    obtain ⟨F, hF⟩ := hex
    refine ⟨some a, cap, (List.range len).map F, by simp [hxv], fun hp => ?_, by simp; omega⟩
    have hp' : 0 < len := by simpa using hp
    obtain ⟨b, off, rfl, hb⟩ := addr_plain (w := w) (a := a) (v := .int .i64 (F 0).1.place) (by
      have h0 := (hF 0 hp').1 0 _ rfl
      rw [Nat.zero_mul] at h0
      have e : ∀ a : Addr, a.add 0 = a := fun a => by unfold Addr.add; rfl
      rw [e, e] at h0
      rw [e]
      exact h0)
    refine ⟨b, off, rfl, hb, fun j o hj => ?_⟩
    obtain ⟨hj1, hj2⟩ := List.getElem?_eq_some_iff.1 hj
    have hj' : j < len := by simpa using hj1
    have : F j = o := by simpa using hj2
    subst this
    obtain ⟨h1, h2⟩ := hF j hj'
    rw [add_at] at h1
    have g : ∀ i u, (recC (F j).1 (F j).2.1 (F j).2.2)[i]? = some u → w.cell? ⟨b, off + j * 7 + i, none⟩ = some u := fun i u hu => by
      have := h1 i u hu
      rwa [add_at] at this
    exact ⟨⟨g 0 _ rfl, g 1 _ rfl, g 2 _ rfl, g 3 _ rfl, g 4 _ rfl, g 5 _ rfl, g 6 _ rfl⟩, h2⟩
end
end Go.Proofs.YtjnphajkoopkgaaGreatDoor
