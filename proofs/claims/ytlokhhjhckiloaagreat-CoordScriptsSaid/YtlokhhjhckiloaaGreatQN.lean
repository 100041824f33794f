/- coord: merged texts. What each proves is told at its head. -/
import Derived.Test.YtlokhhjhckiloaaGreatQ1
import Derived.Test.YtlokhhjhckiloaaGreatAsBase
import Derived.OpenShut
import Derived.ProofKit
import Derived.SizedLaws
import Derived.Deep.Slices
import Derived.Deep.Fields
import Derived.BigQuiet
import Derived.RangeFuncNested
import Derived.RangeFuncBound
import Derived.RangeFuncCalls
import Derived.RangeFuncLeaves
import Derived.RangeFuncBox
import Derived.OwnWalkIn
import Derived.TacticsInMore
import Derived.LoopIn
import Derived.Test.YtlokhhjhckiloaaGreatMbGi
/- coord: what the document's examples say, by a contract. No condition. -/
namespace Go.Proofs.YtlokhhjhckiloaaGreat
open Go.RowKit Go.Maps Go.ChangeMaps Go.WideMaps
set_option linter.unusedVariables false
def tB : ByteArray := ⟨#[116]⟩
def gB : ByteArray := ⟨#[103]⟩
def hB : ByteArray := ⟨#[104]⟩
def lvG1 : GD := ⟨2, 1, 1, 21, [⟨0, [tB], 11, true, []⟩], 10, 20⟩
theorem lv1 : joinD (-1) [tB] 1 (newG 10 20) = lvG1 ∧ joinE (-1) [tB] 1 (newG 10 20) = 0 ∧ joinM (-1) (newG 10 20) = 0 := ⟨rfl, rfl, rfl⟩
theorem lit_str (w : World) (s : ByteArray) : StrIn (w.alloc (.cells #[.string s] 9)) (some ⟨w.heap.size, 0, none⟩) [s] := fun _ => ⟨w.heap.size, 0, rfl, (Box.new w 9 #[.string s]).lt, fun j x hx => by
  match j, hx with
  | 0, hx =>
    have : s = x := by simpa using hx
    subst this
    exact (Box.new w 9 #[.string s]).cell 0⟩
def lvS : List UInt8 → Option GD := putSt (fun _ => none) gB.data.toList (some lvG1)
theorem lvm1 : mayCE (lvS gB.data.toList) 0 1 = 0 := rfl
theorem lvm2 : mayCE (lvS gB.data.toList) (-1) (-1) = 11 := rfl
theorem lvm3 : mayCE (lvS hB.data.toList) (-1) (-1) = 0 := rfl
theorem lvc : Of.coR 1000 [] ⟨gB, tB, 0⟩ 7 = 0 ∧ Of.geR (Of.coS 1000 [] ⟨gB, tB, 0⟩ 7) ⟨gB, tB, 0⟩ = (7, true) := by
  constructor
  · rfl
  · decide +kernel
theorem lvky : Of.KyOk ⟨gB, tB, 0⟩ := ⟨by decide, by decide, rfl⟩
set_option maxHeartbeats 16000000 in
set_option maxRecDepth 100000 in
theorem live17_c (W : World) : Calls Tryz.prog 7 #[] W (Good W (.bool true)) := by
  have cn1 := cnew_ok 10 20 (by omega) (by omega) W W (Below.refl _ _)
  have cn2 := fun w => cnew_no 0 0 rfl w
  have fd0 := fieldV0
  go_enter Tryz.func7, Tryz.ntmps7
  go_wp2_with fail
  with_reducible refine cn1.mono ?_
  rintro e w1 ⟨p, rfl, hC⟩
  have H1 := Lib.hid hC
  clear cn1 hC
  go_wp2_with fail
  with_reducible refine (cn2 _).mono ?_
  rintro e w2 ⟨rfl, rfl⟩
  clear cn2
  have hA : Below w2.heap.size w2 (w2.alloc (.cells #[.string tB] 9)) := (Below.refl _ _).alloc (Nat.le_refl _) _
  have cj := join_x (H1.out.later hA) ⟨by omega, by omega⟩ gB ⟨by decide, by decide⟩ (.inr (by omega)) (-1) 1 [tB] (some ⟨w2.heap.size, 0, none⟩) 1 (lit_str w2 tB) (by simp) (fun s hs => by
    have : s = tB := by simpa using hs
    rw [this]; decide) (fun _ a ha g o og F V D hc e he => by
    injection ha with ha
    rw [← ha]
    obtain ⟨R, hR⟩ := (hc.grp e he).is
    exact grS_box hR (Box.new w2 9 #[.string tB]) (by decide) (by decide))
  rw [show ((none : Option GD).getD (newG 10 20)) = newG 10 20 from rfl, lv1.1, lv1.2.1, lv1.2.2, show lvG1.gn = 1 from rfl, show leadM lvG1 = 0 from rfl] at cj
  rw [show ([tB] : List ByteArray).length = 1 from rfl] at cj
  unfold tB gB at cj
  clear hA
  go_wp2_with fail
  with_reducible refine cj.mono ?_
  rintro en w3 ⟨a, b, d, e, rfl, he, _, h0⟩
  subst he
  obtain ⟨rfl, rfl, rfl, n', hn', hC⟩ := h0 rfl
  have hA3 : Below w3.heap.size w3 (w3.alloc (.cells #[.int .i64 0, .int .i64 1, .int .i64 0] 41)) := (Below.refl _ _).alloc (Nat.le_refl _) _
  have hC' : Cx W p 2 10 20 lvS n' [] w3 := hC
  have HC3 := Lib.hid (hC'.later hA3)
  have HB3 := Lib.hid (Box.new w3 41 #[.int .i64 0, .int .i64 1, .int .i64 0])
  clear cj h0 hC H1 hC' hA3
  have k1 := may_x HC3.out gB (by decide) 0 1
  rw [lvm1] at k1
  unfold gB at k1
  go_wp2_with fail
  with_reducible refine k1.mono ?_
  rintro en w4 ⟨rfl, hb4⟩
  have HC4 := Lib.hid (HC3.out.later hb4)
  have HB4 := Lib.hid (HB3.out.later hb4)
  have k2 := may_x HC4.out gB (by decide) (-1) (-1)
  rw [lvm2] at k2
  unfold gB at k2
  clear k1 hb4 HC3 HB3
  go_wp2_with fail
  with_reducible refine k2.mono ?_
  rintro en w5 ⟨rfl, hb5⟩
  have HC5 := Lib.hid (HC4.out.later hb5)
  have HB5 := Lib.hid (HB4.out.later hb5)
  have k3 := may_x HC5.out hB (by decide) (-1) (-1)
  rw [lvm3] at k3
  unfold hB at k3
  clear k2 hb5 HC4 HB4
  go_wp2_with fail
  with_reducible refine k3.mono ?_
  rintro en w6 ⟨rfl, hb6⟩
  have HC6 := Lib.hid (HC5.out.later hb6)
  have HB6 := Lib.hid (HB5.out.later hb6)
  have k4 := commit_x HC6.out gB tB 0 7
  rw [lvc.1] at k4
  unfold gB tB at k4
  clear k3 hb6 HC5 HB5
  go_wp2_with fail
  with_reducible refine k4.mono ?_
  rintro en w7 ⟨rfl, hC7, hk7⟩
  have HC7 : Hid (Cx W p 2 10 20 lvS n' (Of.coS 1000 [] ⟨gB, tB, 0⟩ 7) w7) := Lib.hid hC7
  have HB7 := Lib.hid (hk7 _ _ _ HB6.out)
  have k5 := committed_x HC7.out gB tB 0 lvky
  rw [lvc.2] at k5
  unfold gB tB at k5
  clear k4 hC7 hk7 HC6 HB6
  go_wp2_with fail
  with_reducible refine k5.mono ?_
  rintro en w8 ⟨rfl, hb8⟩
  have HC8 := Lib.hid (HC7.out.later hb8)
  have HB8 := Lib.hid (HB7.out.later hb8)
  obtain ⟨r0, r1, r2, rl, _⟩ := jn3 HB8.out
  have k6 := group_x HC8.out gB (by decide)
  rw [show (lvS gB.data.toList).getD zG = lvG1 from rfl, show lvG1.ph = 2 from rfl] at k6
  unfold gB at k6
  clear k5 hb8 HC7 HB7
  go_wp2_with fail
  with_reducible refine k6.mono ?_
  rintro en w9 ⟨v9, R9, rfl, hr9, _, _, hb9⟩
  obtain ⟨A9, n9, rfl⟩ := own_slice hr9
  have HB9 := Lib.hid (HC8.out.bel.trans (hb9.mono HC8.out.bel.size))
  clear k6 hr9 hb9
  go_wp2_with fail
  go_ret
  exact ⟨rfl, HB9.out⟩
end Go.Proofs.YtlokhhjhckiloaaGreat
/- assign: what an argument that is a list of members, or of topics, reads as. Plain words. No condition. -/
namespace Go.Proofs.YtlokhhjhckiloaaGreat
open Go.RowKit Go.WideShapes Go.ChangeShapes Go.Deep
set_option linter.unusedVariables false
section
variable {H : Type} {enc : TypeId × Value → H} {P : Program} {w : World} {base : Nat} {sp : Nat → Bool} {held : Bool}
/-- None of a datum's parts is greater than what may be read. -/
def Weighs (P : Program) (t : TypeId) (d : DataW H) : Prop := ∀ n ∈ d.weights P t, n ≤ reachBytes
theorem reach_47 : reachBytes = 140737488351232 := by decide
theorem weighs_param {ts : List TypeId} {ds : List (DataW H)} (h : (DataW.weightsEach P ts ds).all (· ≤ reachBytes) = true) {j : Nat} {t : TypeId} {d : DataW H} (ht : ts[j]? = some t) (hd : ds[j]? = some d) : Weighs P t d := fun n hn => by
  have := List.all_eq_true.1 h _ (DataW.weights_mem_each ht hd n hn)
  simpa using this
theorem weighs_field {t : TypeId} {fs : Array Field} {parts : List (DataW H)} (hs : P.underlying t = some (.struct fs)) (h : Weighs P t (.agg parts)) {j : Nat} {f : Field} {d : DataW H} (hf : fs[j]? = some f) (hd : parts[j]? = some d) : Weighs P f.type d := fun n hn => by
  refine h n ?_
  simp only [DataW.weights, hs]
  refine DataW.weights_mem_each (j := j) ?_ hd n hn
  simp [hf]
theorem weightsAll_mem {e : TypeId} : ∀ {l : List (DataW H)} {i : Nat} {d : DataW H}, l[i]? = some d → ∀ n ∈ d.weights P e, n ∈ DataW.weightsAll P e l
  | [], _, _, h, _, _ => by simp at h
  | x :: l, 0, d, h, n, hn => by
    have : x = d := by simpa using h
    subst this
    simp only [DataW.weightsAll, List.mem_append]
    exact .inl hn
  | x :: l, i + 1, d, h, n, hn => by
    simp only [DataW.weightsAll, List.mem_append]
    exact .inr (weightsAll_mem (by simpa using h) n hn)
theorem weighs_elem {t e : TypeId} {elems spare : List (DataW H)} (hu : P.underlying t = some (.slice e)) (h : Weighs P t (.slice elems spare)) {i : Nat} {d : DataW H} (hd : elems[i]? = some d) : Weighs P e d := fun n hn => by
  refine h n ?_
  simp only [DataW.weights, hu, List.mem_cons, List.mem_append]
  exact .inr (.inl (weightsAll_mem hd n hn))
theorem weighs_len {t e : TypeId} {elems spare : List (DataW H)} (hu : P.underlying t = some (.slice e)) (h : Weighs P t (.slice elems spare)) : (elems.length + spare.length) * P.bytesOf e ≤ reachBytes := by
  refine h _ ?_
  simp only [DataW.weights, hu, List.mem_cons]
  exact .inl trivial
theorem weighs_str {t : TypeId} {s : ByteArray} (h : Weighs P t (.lit (.string s.data.toList) : DataW H)) : s.size ≤ 140737488351232 := by
  have := h s.size (by simp [DataW.weights])
  rwa [reach_47] at this
/-- A struct of one-cell fields, each read by itself. -/
theorem open_fields {r : Reach} {b0 : Nat} {t : TypeId} {fs : Array Field} {v : Value} {d : DataW H} {p : List MemPlace} (hs : P.underlying t = some (.struct fs)) (hone : oneCellFields P fs = true) (hC : P.cellsOf t = fs.size)
    (hv : Value.okWide P w r b0 t v) (h : DataW.Trod enc P w base sp held t v d p) :
    ∃ (cs : Array Value) (ys : List (DataW H × List MemPlace)) (n : Nat), v = .agg cs ∧ cs.size = fs.size ∧ d = .agg (ys.map (·.1)) ∧ ys.length = fs.size ∧
      ∀ (j : Nat) (f : Field), fs[j]? = some f → ∃ (x : Value) (y : DataW H × List MemPlace), cs[j]? = some x ∧ ys[j]? = some y ∧ DataW.trod enc P w base sp held n f.type [x] = some y := by
  obtain ⟨cs, rfl, hsz⟩ := okWide_struct hs hv
  obtain ⟨fuel, hf⟩ := h
  obtain ⟨xs, n, _, hx, hl, hlen, hg⟩ := DataW.trod_struct hs hf
  simp only [Prod.mk.injEq] at hx
  refine ⟨cs, xs, n, rfl, hsz.trans hC, hx.1, hlen, fun j f hj => ?_⟩
  obtain ⟨ho, hk⟩ := hone_of hone j f hj
  have hjl : j < fs.size := (Array.getElem?_eq_some_iff.1 hj).1
  have hcl : j < cs.size := by rw [hsz, hC]; exact hjl
  have h1 := hg j f hj
  rw [ho, hk] at h1
  have e1 : ((Value.agg cs).cells.toList.drop j).take 1 = [cs[j]] := by
    show (cs.toList.drop j).take 1 = _
    rw [List.drop_eq_getElem_cons (by simpa using hcl)]
    simp
  rw [e1] at h1
  have hjx : j < xs.length := by rw [hlen]; exact hjl
  exact ⟨cs[j], xs[j], by simp [hcl], List.getElem?_eq_getElem hjx, h1.trans (List.getElem?_eq_getElem hjx)⟩
theorem addr_plain {a : Addr} {v : Value} (h : w.cell? (a.add 0) = some v) : ∃ b off, a = ⟨b, off, none⟩ ∧ b < w.heap.size := by
  obtain ⟨b, off, spot⟩ := a
  have hspot : spot = none := by simpa [Addr.add] using World.cell?_spot h
  subst hspot
  refine ⟨b, off, rfl, ?_⟩
  rcases Nat.lt_or_ge b w.heap.size with hlt | hge
  · exact hlt
  · exfalso
    simp [Addr.add, World.cell?, Array.getElem?_eq_none hge] at h
theorem add_at (b off i : Nat) : (⟨b, off, none⟩ : Addr).add i = ⟨b, off + i, none⟩ := by unfold Addr.add; split <;> simp_all
theorem open_cells {t : TypeId} {fs : Array Field} {n : Nat} {cs' : List Value} {d : DataW H} {p : List MemPlace} (hs : P.underlying t = some (.struct fs)) (hone : oneCellFields P fs = true) (hl : cs'.length = fs.size)
    (ht' : DataW.trod enc P w base sp held n t cs' = some (d, p)) (hwe : Weighs P t d) :
    ∃ n2, ∀ (k : Nat) (f : Field), fs[k]? = some f → ∃ (x : Value) (z : DataW H × List MemPlace), cs'[k]? = some x ∧ DataW.trod enc P w base sp held n2 f.type [x] = some z ∧ Weighs P f.type z.1 := by
  obtain ⟨ys, n2, hn2, hy, hcl, hyl, hff⟩ := DataW.trod_struct hs ht'
  simp only [Prod.mk.injEq] at hy
  rw [hy.1] at hwe
  have hone' := hone_of hone
  refine ⟨n2, fun k f hk => ?_⟩
  obtain ⟨ho, hkk⟩ := hone' k f hk
  have q := hff k f hk
  rw [ho, hkk] at q
  have hkf : k < fs.size := (Array.getElem?_eq_some_iff.1 hk).1
  have e1 : (cs'.drop k).take 1 = [cs'[k]'(by omega)] := by
    rw [List.drop_eq_getElem_cons (by omega)]; rfl
  rw [e1] at q
  have hkl : k < ys.length := by rw [hyl]; exact hkf
  have hyk : ys[k]? = some ys[k] := List.getElem?_eq_getElem hkl
  rw [hyk] at q
  exact ⟨_, _, List.getElem?_eq_getElem (by omega), q, weighs_field hs hwe hk (d := ys[k].1) (by simp [hyk])⟩
end
section
variable {H : Type} {enc : TypeId × Value → H} {w : World} {base : Nat} {sp : Nat → Bool} {held : Bool}
set_option maxRecDepth 100000 in
theorem open_strs {n : Nat} {x : Value} {y : DataW H × List MemPlace} (h : DataW.trod enc Tryz.prog w base sp held n 31 [x] = some y) (hw : Weighs Tryz.prog 31 y.1) :
    ∃ A c, ∃ L : List ByteArray, x = .slice A L.length c ∧ StrIn w A L ∧ L.length ≤ 140737488351232 := by
  rcases open_slice Tryz.underlying31 h with ⟨hcs, _⟩ | ⟨a, len, cap, m, n', D, Pl, hcs, _, hlc, _, hm, hx, hi⟩
  · have : x = .slice none 0 0 := by simpa using hcs
    exact ⟨none, 0, [], this, fun hp => by simp at hp, by simp⟩
  · have hxv : x = .slice (some a) len cap := by simpa using hcs
    have hlm : len ≤ m := by rw [hm]; split <;> omega
    have hD : y.1 = .slice ((List.range len).map D) ((List.range (m - len)).map fun j => D (len + j)) := by rw [hx]
    rw [hD] at hw
    have hlen := weighs_len Tryz.underlying31 hw
    rw [reach_47] at hlen
    simp only [List.length_map, List.length_range] at hlen
    have hl2 : len * 16 ≤ 140737488351232 := by
      refine Nat.le_trans ?_ hlen
      exact Nat.mul_le_mul (by omega) (by decide +kernel)
    have key : ∀ i, i < len → ∃ o : ByteArray, w.cell? (a.add i) = some (.string o) := by
      intro i hil
      obtain ⟨cs', hc, ht'⟩ := hi i (by omega)
      rw [show Tryz.prog.cellsOf 9 = 1 by kernel_rfl] at hc
      obtain ⟨_, hcl2, hat⟩ := World.cells?_some hc
      obtain ⟨u, rfl⟩ : ∃ u, cs' = [u] := by
        match cs', hcl2 with
        | [u], _ => exact ⟨u, rfl⟩
      obtain ⟨o, e0, _⟩ := DataW.trod_string Tryz.underlying9 ht'
      refine ⟨o, ?_⟩
      have h0 := hat 0 (by omega)
      rw [Nat.mul_one, Go.Deep.add_add, Nat.add_zero] at h0
      rw [h0]
      simpa using e0
    have hex : ∃ F : Nat → ByteArray, ∀ i, i < len → w.cell? (a.add i) = some (.string (F i)) := by
      classical
      refine ⟨fun i => if h : i < len then Classical.choose (key i h) else ⟨#[]⟩, fun i hil => ?_⟩
      simp only [dif_pos hil]
      exact Classical.choose_spec (key i hil)
    obtain ⟨F, hF⟩ := hex
    refine ⟨some a, cap, (List.range len).map F, by simp [hxv], fun hp => ?_, by simp; omega⟩
    have hp' : 0 < len := by simpa using hp
    obtain ⟨b, off, rfl, hb⟩ := addr_plain (w := w) (a := a) (hF 0 hp')
    refine ⟨b, off, rfl, hb, fun j o hj => ?_⟩
    obtain ⟨hj1, hj2⟩ := List.getElem?_eq_some_iff.1 hj
    have hj' : j < len := by simpa using hj1
    have : F j = o := by simpa using hj2
    subst this
    have := hF j hj'
    rwa [add_at] at this
set_option maxRecDepth 100000 in
theorem open_subs0 {n : Nat} {x : Value} {y : DataW H × List MemPlace} (h : DataW.trod enc Tryz.prog w base sp held n 140 [x] = some y) (hw : Weighs Tryz.prog 140 y.1) :
    ∃ A c, ∃ L : List SX, x = .slice A L.length c ∧ SbIn w A L ∧ L.length ≤ 140737488351232 ∧ (∀ x ∈ L, x.2.1.length ≤ 140737488351232) := by
  rcases open_slice Tryz.underlying140 h with ⟨hcs, _⟩ | ⟨a, len, cap, m, n', D, Pl, hcs, _, hlc, _, hm, hx, hi⟩
  · have : x = .slice none 0 0 := by simpa using hcs
    exact ⟨none, 0, [], this, fun hp => by simp at hp, by simp, by simp⟩
  · have hxv : x = .slice (some a) len cap := by simpa using hcs
    have hlm : len ≤ m := by rw [hm]; split <;> omega
    have hD : y.1 = .slice ((List.range len).map D) ((List.range (m - len)).map fun j => D (len + j)) := by rw [hx]
    rw [hD] at hw
    have hlen := weighs_len Tryz.underlying140 hw
    rw [reach_47] at hlen
    simp only [List.length_map, List.length_range] at hlen
    have hl2 : len * 32 ≤ 140737488351232 := by
      refine Nat.le_trans ?_ hlen
      exact Nat.mul_le_mul (by omega) (by decide +kernel)
    have key : ∀ i, i < len → ∃ o : SX, (w.cell? ((a.add (i * 2)).add 0) = some (.int .i64 o.1) ∧ w.cell? ((a.add (i * 2)).add 1) = some (.slice o.2.2.1 o.2.1.length o.2.2.2)) ∧ (StrIn w o.2.2.1 o.2.1 ∧ o.2.1.length ≤ 140737488351232) := by
      intro i hil
      obtain ⟨cs', hc, ht'⟩ := hi i (by omega)
      rw [show Tryz.prog.cellsOf 142 = 2 by kernel_rfl] at hc
      obtain ⟨_, hcl2, hat⟩ := World.cells?_some hc
      have hwe : Weighs Tryz.prog 142 (D i) := weighs_elem Tryz.underlying140 hw (i := i) (by simp [hil])
      obtain ⟨n2, get⟩ := open_cells Tryz.underlying142 (by kernel_rfl) hcl2 ht' hwe
      obtain ⟨x0, y0, q0, t0, w0⟩ := get 0 _ rfl
      obtain ⟨x1, y1, q1, t1, w1⟩ := get 1 _ rfl
      obtain ⟨n0, e0, _, _⟩ := DataW.trod_int Tryz.underlying3 t0
      obtain ⟨A, c, hs, e1, hin, hl⟩ := open_strs t1 w1
      obtain rfl : x0 = .int .i64 n0 := by simpa using e0
      subst e1
      refine ⟨(n0, hs, A, c), ⟨?_, ?_⟩, hin, hl⟩
      · rw [hat 0 (by omega), q0]
      · rw [hat 1 (by omega), q1]
    have hex : ∃ F : Nat → SX, ∀ i, i < len → (w.cell? ((a.add (i * 2)).add 0) = some (.int .i64 (F i).1) ∧ w.cell? ((a.add (i * 2)).add 1) = some (.slice (F i).2.2.1 (F i).2.1.length (F i).2.2.2)) ∧ (StrIn w (F i).2.2.1 (F i).2.1 ∧ (F i).2.1.length ≤ 140737488351232) := by
      classical
      refine ⟨fun i => if h : i < len then Classical.choose (key i h) else (0, [], none, 0), fun i hil => ?_⟩
      simp only [dif_pos hil]
      exact Classical.choose_spec (key i hil)
    obtain ⟨F, hF⟩ := hex
    refine ⟨some a, cap, (List.range len).map F, by simp [hxv], fun hp => ?_, by simp; omega, fun z hz => ?_⟩
    · have hp' : 0 < len := by simpa using hp
      obtain ⟨b, off, rfl, hb⟩ := addr_plain (w := w) (a := a) (v := .int .i64 (F 0).1) (by
        have h0 := (hF 0 hp').1.1
        rw [Nat.zero_mul] at h0
        have e : ∀ a : Addr, a.add 0 = a := fun a => by unfold Addr.add; rfl
        rw [e, e] at h0
        rw [e]
        exact h0)
      refine ⟨b, off, rfl, hb, fun j o hj => ?_⟩
      obtain ⟨hj1, hj2⟩ := List.getElem?_eq_some_iff.1 hj
      have hj' : j < len := by simpa using hj1
      have : F j = o := by simpa using hj2
      subst this
      obtain ⟨⟨h1, h2⟩, h3⟩ := hF j hj'
      rw [add_at, add_at] at h1 h2
      exact ⟨⟨h1, h2⟩, h3.1⟩
    · simp only [List.mem_map, List.mem_range] at hz
      obtain ⟨i, hi', rfl⟩ := hz
      exact (hF i hi').2.2
set_option maxRecDepth 100000 in
theorem open_subs {r : Reach} {b0 : Nat} {v : Value} {d : DataW H} {p : List MemPlace} (hv : Value.okWide Tryz.prog w r b0 140 v) (h : DataW.Trod enc Tryz.prog w base sp held 140 v d p) (hw : Weighs Tryz.prog 140 d) :
    ∃ (A : Option Addr) (c : Nat) (L : List SX), v = .slice A L.length c ∧ SbIn w A L ∧ L.length ≤ 140737488351232 ∧ (∀ x ∈ L, x.2.1.length ≤ 140737488351232) := by
  obtain ⟨fuel, hf⟩ := h
  obtain ⟨A0, len0, cap0, rfl⟩ := okWide_slice Tryz.underlying140 hv
  exact open_subs0 (y := (d, p)) hf hw
set_option maxRecDepth 100000 in
theorem open_tops0 {n : Nat} {x : Value} {y : DataW H × List MemPlace} (h : DataW.trod enc Tryz.prog w base sp held n 32 [x] = some y) (hw : Weighs Tryz.prog 32 y.1) :
    ∃ A c, ∃ L : List TX, x = .slice A L.length c ∧ TpIn w A L ∧ L.length ≤ 140737488351232 ∧ (∀ x ∈ L, x.1.size ≤ 281474976710656) := by
  rcases open_slice Tryz.underlying32 h with ⟨hcs, _⟩ | ⟨a, len, cap, m, n', D, Pl, hcs, _, hlc, _, hm, hx, hi⟩
  · have : x = .slice none 0 0 := by simpa using hcs
    exact ⟨none, 0, [], this, fun hp => by simp at hp, by simp, by simp⟩
  · have hxv : x = .slice (some a) len cap := by simpa using hcs
    have hlm : len ≤ m := by rw [hm]; split <;> omega
    have hD : y.1 = .slice ((List.range len).map D) ((List.range (m - len)).map fun j => D (len + j)) := by rw [hx]
    rw [hD] at hw
    have hlen := weighs_len Tryz.underlying32 hw
    rw [reach_47] at hlen
    simp only [List.length_map, List.length_range] at hlen
    have hl2 : len * 24 ≤ 140737488351232 := by
      refine Nat.le_trans ?_ hlen
      exact Nat.mul_le_mul (by omega) (by decide +kernel)
    have key : ∀ i, i < len → ∃ o : TX, (w.cell? ((a.add (i * 2)).add 0) = some (.string o.1) ∧ w.cell? ((a.add (i * 2)).add 1) = some (.int .i64 o.2)) ∧ o.1.size ≤ 281474976710656 := by
      intro i hil
      obtain ⟨cs', hc, ht'⟩ := hi i (by omega)
      rw [show Tryz.prog.cellsOf 162 = 2 by kernel_rfl] at hc
      obtain ⟨_, hcl2, hat⟩ := World.cells?_some hc
      have hwe : Weighs Tryz.prog 162 (D i) := weighs_elem Tryz.underlying32 hw (i := i) (by simp [hil])
      obtain ⟨n2, get⟩ := open_cells Tryz.underlying162 (by kernel_rfl) hcl2 ht' hwe
      obtain ⟨x0, y0, q0, t0, w0⟩ := get 0 _ rfl
      obtain ⟨x1, y1, q1, t1, w1⟩ := get 1 _ rfl
      obtain ⟨n0, e0, z0, _⟩ := DataW.trod_string Tryz.underlying9 t0
      obtain ⟨n1, e1, _, _⟩ := DataW.trod_int Tryz.underlying3 t1
      rw [z0] at w0
      have s0 := weighs_str w0
      obtain rfl : x0 = .string n0 := by simpa using e0
      obtain rfl : x1 = .int .i64 n1 := by simpa using e1
      refine ⟨(n0, n1), ⟨?_, ?_⟩, by simp only; omega⟩
      · rw [hat 0 (by omega), q0]
      · rw [hat 1 (by omega), q1]
    have hex : ∃ F : Nat → TX, ∀ i, i < len → (w.cell? ((a.add (i * 2)).add 0) = some (.string (F i).1) ∧ w.cell? ((a.add (i * 2)).add 1) = some (.int .i64 (F i).2)) ∧ (F i).1.size ≤ 281474976710656 := by
      classical
      refine ⟨fun i => if h : i < len then Classical.choose (key i h) else (⟨#[]⟩, 0), fun i hil => ?_⟩
      simp only [dif_pos hil]
      exact Classical.choose_spec (key i hil)
    obtain ⟨F, hF⟩ := hex
    refine ⟨some a, cap, (List.range len).map F, by simp [hxv], fun hp => ?_, by simp; omega, fun z hz => ?_⟩
    · have hp' : 0 < len := by simpa using hp
      obtain ⟨b, off, rfl, hb⟩ := addr_plain (w := w) (a := a) (v := .string (F 0).1) (by
        have h0 := (hF 0 hp').1.1
        rw [Nat.zero_mul] at h0
        have e : ∀ a : Addr, a.add 0 = a := fun a => by unfold Addr.add; rfl
        rw [e, e] at h0
        rw [e]
        exact h0)
      refine ⟨b, off, rfl, hb, fun j o hj => ?_⟩
      obtain ⟨hj1, hj2⟩ := List.getElem?_eq_some_iff.1 hj
      have hj' : j < len := by simpa using hj1
      have : F j = o := by simpa using hj2
      subst this
      obtain ⟨⟨h1, h2⟩, h3⟩ := hF j hj'
      rw [add_at, add_at] at h1 h2
      exact ⟨h1, h2⟩
    · simp only [List.mem_map, List.mem_range] at hz
      obtain ⟨i, hi', rfl⟩ := hz
      exact (hF i hi').2
set_option maxRecDepth 100000 in
theorem open_tops {r : Reach} {b0 : Nat} {v : Value} {d : DataW H} {p : List MemPlace} (hv : Value.okWide Tryz.prog w r b0 32 v) (h : DataW.Trod enc Tryz.prog w base sp held 32 v d p) (hw : Weighs Tryz.prog 32 d) :
    ∃ (A : Option Addr) (c : Nat) (L : List TX), v = .slice A L.length c ∧ TpIn w A L ∧ L.length ≤ 140737488351232 ∧ (∀ x ∈ L, x.1.size ≤ 281474976710656) := by
  obtain ⟨fuel, hf⟩ := h
  obtain ⟨A0, len0, cap0, rfl⟩ := okWide_slice Tryz.underlying32 hv
  exact open_tops0 (y := (d, p)) hf hw
end
end Go.Proofs.YtlokhhjhckiloaaGreat
/- coord: a coordinator that is none. No condition. -/
namespace Go.Proofs.YtlokhhjhckiloaaGreat
open Go.RowKit Go.Maps Go.ChangeMaps Go.WideMaps
set_option linter.unusedVariables false
set_option maxRecDepth 100000 in
theorem n_join (s : ByteArray) (m now : Int) (n : Nat) (A : Option Addr) (c : Nat) (W : World) : Calls Tryz.prog 12 #[.pointer none, .string s, .int .i64 m, .slice A n c, .int .i64 now] W (Good W (.tuple #[.agg #[.int .i64 0, .int .i64 0, .int .i64 0], .int .i64 1])) := by
  have HB := Lib.hid (Box.new W 41 #[.int .i64 0, .int .i64 0, .int .i64 0])
  have HA : Hid (Below W.heap.size W (W.alloc (.cells #[.int .i64 0, .int .i64 0, .int .i64 0] 41))) := Lib.hid ((Below.refl _ _).alloc (Nat.le_refl _) _)
  go_enter Tryz.func12, Tryz.ntmps12
  go_wp2_with fail
  exact bodyPost_ret (join_result W.heap.size HB.out _ rfl rfl) rfl ⟨rfl, HA.out⟩
theorem n_sync (s : ByteArray) (m gen now : Int) (A : Option Addr) (n c : Nat) (r : Bool) (W : World) : Calls Tryz.prog 13 #[.pointer none, .string s, .int .i64 m, .int .i64 gen, .slice A n c, .bool r, .int .i64 now] W (fun e w' => e = .returned (.tuple #[.slice none 0 0, .int .i64 1]) ∧ w' = W) := by
  have cf := fun w => cfind_nil s w
  go_enter Tryz.func13, Tryz.ntmps13
  go_wp2_with fail
  with_reducible refine (cf _).mono ?_
  rintro en w2 ⟨rfl, rfl⟩
  go_wp2_with fail
  go_ret2
  exact ⟨rfl, rfl⟩
theorem n_beat (s : ByteArray) (m gen now : Int) (W : World) : Calls Tryz.prog 16 #[.pointer none, .string s, .int .i64 m, .int .i64 gen, .int .i64 now] W (fun e w' => e = .returned (.int .i64 1) ∧ w' = W) := by
  have cf := fun w => cfind_nil s w
  go_enter Tryz.func16, Tryz.ntmps16
  go_wp2_with fail
  with_reducible refine (cf _).mono ?_
  rintro en w2 ⟨rfl, rfl⟩
  go_wp2_with fail
  go_ret
  exact ⟨rfl, rfl⟩
theorem n_commit (s t : ByteArray) (i a : Int) (W : World) : Calls Tryz.prog 19 #[.pointer none, .string s, .agg #[.string t, .int .i64 i], .int .i64 a] W (Good W (.int .i64 1)) := by
  have HA : Hid (Below W.heap.size W (W.alloc (.cells #[.string t, .int .i64 i] 34))) := Lib.hid ((Below.refl _ _).alloc (Nat.le_refl _) _)
  go_enter Tryz.func19, Tryz.ntmps19
  go_wp2_with fail
  go_ret
  exact ⟨rfl, HA.out⟩
theorem n_committed (s t : ByteArray) (i : Int) (W : World) : Calls Tryz.prog 14 #[.pointer none, .string s, .agg #[.string t, .int .i64 i]] W (Good W (.tuple #[.int .i64 0, .bool false])) := by
  have HA : Hid (Below W.heap.size W (W.alloc (.cells #[.string t, .int .i64 i] 34))) := Lib.hid ((Below.refl _ _).alloc (Nat.le_refl _) _)
  go_enter Tryz.func14, Tryz.ntmps14
  go_wp2_with fail
  go_ret2
  exact ⟨rfl, HA.out⟩
theorem n_drop (s : ByteArray) (W : World) : Calls Tryz.prog 20 #[.pointer none, .string s] W (fun e w' => e = .returned (.int .i64 0) ∧ w' = W) := by
  go_enter Tryz.func20, Tryz.ntmps20
  go_wp2_with fail
  go_ret
  exact ⟨rfl, rfl⟩
set_option maxRecDepth 100000 in
theorem n_group (s : ByteArray) (W : World) : Calls Tryz.prog 22 #[.pointer none, .string s] W (Good W (.agg #[.int .i64 0, .int .i64 0, .int .i64 0, .int .i64 0, .slice none 0 0])) := by
  have HB := Lib.hid (Box.new W 57 #[.int .i64 0, .int .i64 0, .int .i64 0, .int .i64 0, .slice none 0 0])
  have HA : Hid (Below W.heap.size W (W.alloc (.cells #[.int .i64 0, .int .i64 0, .int .i64 0, .int .i64 0, .slice none 0 0] 57))) := Lib.hid ((Below.refl _ _).alloc (Nat.le_refl _) _)
  go_enter Tryz.func22, Tryz.ntmps22
  go_wp2_with fail
  exact bodyPost_ret (group_result W.heap.size HB.out _ rfl) rfl ⟨rfl, HA.out⟩
set_option maxRecDepth 100000 in
theorem n_all (W : World) : Calls Tryz.prog 46 #[.pointer none] W (fun e w' => e = .returned (.func (Fn.func 76) #[] #[.pointer (some ⟨W.heap.size, 0, none⟩)]) ∧ w' = W.alloc (.cells #[.pointer none] 23)) := by
  go_enter Tryz.func46, Tryz.ntmps46
  go_wp2_with fail
  go_ret
  exact ⟨rfl, rfl⟩
set_option maxRecDepth 100000 in
theorem n_iter (y : Value) (b : Nat) (W : World) (h : W.cell? ⟨b, 0, none⟩ = some (.pointer none)) : Calls Tryz.prog 76 #[y, .pointer (some ⟨b, 0, none⟩)] W (fun e w' => (∃ v, e = .returned v) ∧ w' = W) := by
  go_enter Tryz.func76, Tryz.ntmps76
  go_wp2_with fail
  refine bodyPost_ret (v := .tuple #[]) (by simp [results, Tryz.results76, go_sem]) rfl ⟨⟨_, rfl⟩, rfl⟩
theorem n_put {B : Nat} (W : World) (D : Nat) (hD : B ≤ D) (hK : W.heap[D]? = some (.deferred (some []))) : Below B W (W.putObj D (Obj.deferred none)) := ⟨rfl, rfl, rfl, by simp [World.putObj], fun k hk => World.putObj_heap_other (by omega)⟩
def KpN (B b : Nat) (W W' : World) : Prop := Below B W W' ∧ W'.heap[b]? = W.heap[b]?
theorem n_stops (b : Nat) (W0 : World) (hb : W0.cell? ⟨b, 0, none⟩ = some (.pointer none)) (hl : b < W0.heap.size) (B : Nat) : SeqStopsK Fence.wide 8 Tryz.prog 76 #[.pointer (some ⟨b, 0, none⟩)] (fun _ : Unit => #[.int .i64 0, .int .i64 0]) (KpN B b) (fun xs => xs = []) (fun _ => False) 0 W0 := by
  intro l J Jx W hB hJ hJx hY h0
  refine (callsIn_wide.2 (n_iter _ b W ((hB.cell (p := ⟨b, 0, none⟩) hl).trans hb))).mono ?_
  rintro e w' ⟨hv, rfl⟩
  exact ⟨hv, .inl ⟨[], rfl, h0⟩⟩
set_option maxHeartbeats 4000000 in
set_option maxRecDepth 100000 in
theorem n_tick_in (now : Int) (w : World) : CallsIn Fence.wide 9 Tryz.prog 15 #[.pointer none, .int .i64 now] w fun e W' => e = .returned (.tuple #[]) ∧ Below w.heap.size w W' := by
  refine callsIn_of_wp_marks Tryz.func15 rfl trivial ?_ rfl
  simp only [Tryz.ntmps15, List.size_toArray, List.length_cons, List.length_nil, Nat.reduceAdd, Nat.reduceSub, Array.replicate_succ, Array.replicate_zero, List.push_toArray, List.append_toArray, List.nil_append, List.cons_append]
  gi_wp2_with fail
  refine ⟨trivial, (callsIn_wide.2 (n_all _)).mono ?_⟩
  rintro e w' ⟨rfl, rfl⟩
  gi_wp2_with fail
  obtain ⟨W0, hW0⟩ : ∃ W0, (w.alloc (.cells #[.int .i64 now] 3)).alloc (.cells #[.pointer none] 23) = W0 := ⟨_, rfl⟩
  have hs0 : W0.heap.size = w.heap.size + 2 := by rw [← hW0]; simp
  have hB1 : W0.cell? ⟨w.heap.size + 1, 0, none⟩ = some (.pointer none) := by
    have := (Box.new (w.alloc (.cells #[.int .i64 now] 3)) 23 #[.pointer none]).cell 0
    rw [World.size_alloc, hW0] at this
    exact this
  have hBW : Below w.heap.size w W0 := by rw [← hW0]; exact ((Below.refl _ w).alloc (Nat.le_refl _) _).alloc (by simp) _
  try rw [hW0]
  clear hW0
  refine wpIn_rangeFunc_ownF rfl (by omega) (gf := 76) (lb := #[.pointer (some ⟨w.heap.size + 1, 0, none⟩)]) rfl trivial (enters_of Tryz.func76 (by kernel_rfl) rfl)
    (n_stops (w.heap.size + 1) W0 hB1 (by omega) w.heap.size) (fun h k => ⟨h.1.trans k.1, k.2.trans h.2⟩) (fun W l o o' h1 h2 h3 h4 => ⟨⟨rfl, rfl, rfl, by simp [World.putObj], fun k hk => World.putObj_heap_other (by omega)⟩, World.putObj_heap_other (by omega)⟩) (Below.refl _ _) (fun _ => rfl)
    (fun _ W => Below w.heap.size w W) (fun _ _ _ => False) ?own (fun _ _ _ _ _ hs _ _ => hs) hBW
    (fun x : Unit => { tmps := #[.pointer none, .int .i64 now, undef, .pointer (some ⟨w.heap.size, 0, none⟩), undef, .int .i64 0, .pointer none, .func (.func 76) #[] #[.pointer (some ⟨w.heap.size + 1, 0, none⟩)], .int .i64 0, .int .i64 0, undef, undef, undef], defers := [] }) ?assign ?body ?done ?stop
  case own =>
    exact ownFrom_below (Nat.le_refl _) (by omega)
  case assign =>
    intro l x W K hK
    gi_wp2
    first
      | exact hK
      | (rw [Oper.semAt_some _ _ _ (by intro c hc; cases hc)]; go_simp; rename_i hq; refine hq _ _ ?_; gi_wp2; exact hK)
  case body =>
    rintro l pre x W _ hlen
    exact absurd hlen (Nat.not_lt_zero _)
  case done =>
    rintro D ys W hD hS hB hK
    gi_wp2
    refine ⟨by simp, .inl ⟨_, _, rfl, run_takeDeferred hK, ?_⟩⟩
    refine ⟨_, results_none rfl _ _ _, rfl, ?_⟩
    exact hB.trans (n_put W D (by have := hBW.size; omega) hK)
  case stop =>
    rintro D c pre W _ _ h _
    exact h.elim
theorem n_tick (now : Int) (W : World) : Calls Tryz.prog 15 #[.pointer none, .int .i64 now] W (Good W (.tuple #[])) := callsIn_wide.1 (n_tick_in now W)
theorem tab_lt' {w : World} {a : Addr} {v : Value} (h : w.cell? a = some v) : a.block < w.heap.size := by
  rcases Nat.lt_or_ge a.block w.heap.size with hlt | hge
  · exact hlt
  · simp [World.cell?, Array.getElem?_eq_none hge] at h
theorem n_own (w W0 : World) (h : w.heap.size < W0.heap.size) : OwnFrom W0.heap.size (fun (_ : List Unit) W => Below w.heap.size w W ∧ W.cell? ⟨w.heap.size, 0, none⟩ = some (.slice none 0 0)) := by
  intro xs W W' row hs hg hr
  refine ⟨ownFrom_below (Nat.le_refl _) (by omega) xs W W' row hs.1 hg hr, ?_⟩
  have hlt : w.heap.size < W.heap.size := tab_lt' hs.2
  have := hg.block w.heap.size hlt (fun e => by have := (hr _ e.symm).1; omega)
  exact (World.cell?_of_block (a := ⟨w.heap.size, 0, none⟩) this).trans hs.2
set_option maxHeartbeats 4000000 in
set_option maxRecDepth 100000 in
theorem n_names_in (w : World) : CallsIn Fence.wide 9 Tryz.prog 21 #[.pointer none] w fun e W' => e = .returned (.slice none 0 0) ∧ Below w.heap.size w W' := by
  refine callsIn_of_wp_marks Tryz.func21 rfl trivial ?_ rfl
  simp only [Tryz.ntmps21, List.size_toArray, List.length_cons, List.length_nil, Nat.reduceAdd, Nat.reduceSub, Array.replicate_succ, Array.replicate_zero, List.push_toArray, List.append_toArray, List.nil_append, List.cons_append]
  gi_wp2_with fail
  refine ⟨trivial, (callsIn_wide.2 (n_all _)).mono ?_⟩
  rintro e w' ⟨rfl, rfl⟩
  gi_wp2_with fail
  obtain ⟨W0, hW0⟩ : ∃ W0, (w.alloc (.cells #[.slice none 0 0] 31)).alloc (.cells #[.pointer none] 23) = W0 := ⟨_, rfl⟩
  have hs0 : W0.heap.size = w.heap.size + 2 := by rw [← hW0]; simp
  have hB1 : W0.cell? ⟨w.heap.size + 1, 0, none⟩ = some (.pointer none) := by
    have := (Box.new (w.alloc (.cells #[.slice none 0 0] 31)) 23 #[.pointer none]).cell 0
    rw [World.size_alloc, hW0] at this
    exact this
  have hB2 : W0.cell? ⟨w.heap.size, 0, none⟩ = some (.slice none 0 0) := by
    have h1 := ((Box.new w 31 #[.slice none 0 0]).alloc (.cells #[.pointer none] 23)).cell 0
    rw [hW0] at h1
    exact h1
  have hBW : Below w.heap.size w W0 := by rw [← hW0]; exact ((Below.refl _ w).alloc (Nat.le_refl _) _).alloc (by simp) _
  try rw [hW0]
  clear hW0
  refine wpIn_rangeFunc_ownF rfl (by omega) (gf := 76) (lb := #[.pointer (some ⟨w.heap.size + 1, 0, none⟩)]) rfl trivial (enters_of Tryz.func76 (by kernel_rfl) rfl)
    (n_stops (w.heap.size + 1) W0 hB1 (by omega) w.heap.size) (fun h k => ⟨h.1.trans k.1, k.2.trans h.2⟩) (fun W l o o' h1 h2 h3 h4 => ⟨⟨rfl, rfl, rfl, by simp [World.putObj], fun k hk => World.putObj_heap_other (by omega)⟩, World.putObj_heap_other (by omega)⟩) (Below.refl _ _) (fun _ => rfl)
    (fun _ W => Below w.heap.size w W ∧ W.cell? ⟨w.heap.size, 0, none⟩ = some (.slice none 0 0)) (fun _ _ _ => False) ?own (fun _ _ _ _ _ hs _ _ => hs) ⟨hBW, hB2⟩
    (fun x : Unit => { tmps := #[.pointer none, undef, .slice none 0 0, .pointer (some ⟨w.heap.size, 0, none⟩), .int .i64 0, .pointer none, .func (.func 76) #[] #[.pointer (some ⟨w.heap.size + 1, 0, none⟩)], .int .i64 0, .int .i64 0, undef, undef, undef, undef, undef, undef], defers := [] }) ?assign ?body ?done ?stop
  case own =>
    exact n_own w W0 (by omega)
  case assign =>
    intro l x W K hK
    gi_wp2
    first
      | exact hK
      | (rw [Oper.semAt_some _ _ _ (by intro c hc; cases hc)]; go_simp; rename_i hq; refine hq _ _ ?_; gi_wp2; exact hK)
  case body =>
    rintro l pre x W _ hlen
    exact absurd hlen (Nat.not_lt_zero _)
  case done =>
    rintro D ys W hD hS ⟨hB, hc⟩ hK
    gi_wp2
    refine ⟨by simp, .inl ⟨_, _, rfl, run_takeDeferred hK, ?_⟩⟩
    refine ⟨_, results_tmp rfl _ _ _, rfl, ?_⟩
    exact hB.trans (n_put W D (by have := hBW.size; omega) hK)
  case stop =>
    rintro D c pre W _ _ h _
    exact h.elim
theorem n_names (W : World) : Calls Tryz.prog 21 #[.pointer none] W (Good W (.slice none 0 0)) := callsIn_wide.1 (n_names_in W)
end Go.Proofs.YtlokhhjhckiloaaGreat
/- coord: an argument that is a call, or a list of calls. No condition. -/
namespace Go.Proofs.YtlokhhjhckiloaaGreat
open Go.RowKit Go.WideShapes Go.ChangeShapes Go.Deep
set_option linter.unusedVariables false
section
variable {H : Type} {enc : TypeId × Value → H} {w : World} {base : Nat} {sp : Nat → Bool} {held : Bool}
set_option maxRecDepth 100000 in
theorem open_strsz {n : Nat} {x : Value} {y : DataW H × List MemPlace} (h : DataW.trod enc Tryz.prog w base sp held n 31 [x] = some y) (hw : Weighs Tryz.prog 31 y.1) :
    ∃ A c, ∃ L : List ByteArray, x = .slice A L.length c ∧ StrIn w A L ∧ L.length ≤ 140737488351232 ∧ ∀ s ∈ L, s.size ≤ 281474976710656 := by
  rcases open_slice Tryz.underlying31 h with ⟨hcs, _⟩ | ⟨a, len, cap, m, n', D, Pl, hcs, _, hlc, _, hm, hx, hi⟩
  · have : x = .slice none 0 0 := by simpa using hcs
    exact ⟨none, 0, [], this, fun hp => by simp at hp, by simp, by simp⟩
  · have hxv : x = .slice (some a) len cap := by simpa using hcs
    have hlm : len ≤ m := by rw [hm]; split <;> omega
    have hD : y.1 = .slice ((List.range len).map D) ((List.range (m - len)).map fun j => D (len + j)) := by rw [hx]
    rw [hD] at hw
    have hlen := weighs_len Tryz.underlying31 hw
    rw [reach_47] at hlen
    simp only [List.length_map, List.length_range] at hlen
    have hl2 : len * 16 ≤ 140737488351232 := by
      refine Nat.le_trans ?_ hlen
      exact Nat.mul_le_mul (by omega) (by decide +kernel)
    have key : ∀ i, i < len → ∃ o : ByteArray, w.cell? (a.add i) = some (.string o) ∧ o.size ≤ 281474976710656 := by
      intro i hil
      obtain ⟨cs', hc, ht'⟩ := hi i (by omega)
      rw [show Tryz.prog.cellsOf 9 = 1 by kernel_rfl] at hc
      obtain ⟨_, hcl2, hat⟩ := World.cells?_some hc
      obtain ⟨u, rfl⟩ : ∃ u, cs' = [u] := by
        match cs', hcl2 with
        | [u], _ => exact ⟨u, rfl⟩
      obtain ⟨o, e0, z0, _⟩ := DataW.trod_string Tryz.underlying9 ht'
      have hwe : Weighs Tryz.prog 9 (D i) := weighs_elem Tryz.underlying31 hw (i := i) (by simp [hil])
      have z1 : D i = _ := congrArg Prod.fst z0
      rw [z1] at hwe
      have s0 := weighs_str hwe
      refine ⟨o, ?_, by omega⟩
      have h0 := hat 0 (by omega)
      rw [Nat.mul_one, Go.Deep.add_add, Nat.add_zero] at h0
      rw [h0]
      simpa using e0
    have hex : ∃ F : Nat → ByteArray, ∀ i, i < len → w.cell? (a.add i) = some (.string (F i)) ∧ (F i).size ≤ 281474976710656 := by
      classical
      refine ⟨fun i => if h : i < len then Classical.choose (key i h) else ⟨#[]⟩, fun i hil => ?_⟩
      simp only [dif_pos hil]
      exact Classical.choose_spec (key i hil)
    obtain ⟨F, hF⟩ := hex
    refine ⟨some a, cap, (List.range len).map F, by simp [hxv], fun hp => ?_, by simp; omega, fun z hz => ?_⟩
    · have hp' : 0 < len := by simpa using hp
      obtain ⟨b, off, rfl, hb⟩ := addr_plain (w := w) (a := a) (v := .string (F 0)) (hF 0 hp').1
      refine ⟨b, off, rfl, hb, fun j o hj => ?_⟩
      obtain ⟨hj1, hj2⟩ := List.getElem?_eq_some_iff.1 hj
      have hj' : j < len := by simpa using hj1
      have : F j = o := by simpa using hj2
      subst this
      have := (hF j hj').1
      rwa [add_at] at this
    · simp only [List.mem_map, List.mem_range] at hz
      obtain ⟨i, hi', rfl⟩ := hz
      exact (hF i hi').2
/-- A call: what to do, which group, whose, which topics, which generation, which partitions, how, which partition, at what, when. -/
structure OC where
  do_ : Int
  g : ByteArray
  m : Int
  T : List ByteArray
  TA : Option Addr
  tc : Nat
  gen : Int
  P : List TX
  PA : Option Addr
  pc : Nat
  rnd : Bool
  pt : ByteArray
  pi : Int
  at_ : Int
  now : Int
instance : Inhabited OC := ⟨⟨0, ⟨#[]⟩, 0, [], none, 0, 0, [], none, 0, false, ⟨#[]⟩, 0, 0, 0⟩⟩
def ocL (x : OC) : List Value := [.int .i64 x.do_, .string x.g, .int .i64 x.m, .slice x.TA x.T.length x.tc, .int .i64 x.gen, .slice x.PA x.P.length x.pc, .bool x.rnd, .string x.pt, .int .i64 x.pi, .int .i64 x.at_, .int .i64 x.now]
structure OCk (w : World) (x : OC) : Prop where
  str : StrIn w x.TA x.T
  tl : x.T.length ≤ 140737488351232
  tz : ∀ s ∈ x.T, s.size ≤ 281474976710656
  top : TpIn w x.PA x.P
  pl : x.P.length ≤ 140737488351232
  pz : ∀ t ∈ x.P, t.1.size ≤ 281474976710656
  g : x.g.size ≤ 140737488351232
  pt : x.pt.size ≤ 140737488351232
  pi : (Lit.int .i64 x.pi).wf = true
theorem OCk.later {w w' : World} {x : OC} (h : OCk w x) (hb : Below w.heap.size w w') : OCk w' x := ⟨h.str.below hb, h.tl, h.tz, h.top.below hb, h.pl, h.pz, h.g, h.pt, h.pi⟩
set_option maxRecDepth 100000 in
theorem oc_of {n : Nat} {cs' : List Value} {d : DataW H} {p : List MemPlace} (hl : cs'.length = 11) (ht' : DataW.trod enc Tryz.prog w base sp held n 36 cs' = some (d, p)) (hwe : Weighs Tryz.prog 36 d) :
    ∃ x : OC, cs' = ocL x ∧ OCk w x := by
  obtain ⟨xs, n2, _, hy, _, hyl, hff⟩ := DataW.trod_struct Tryz.underlying36 ht'
  simp only [Prod.mk.injEq] at hy
  rw [hy.1] at hwe
  obtain ⟨y0, u0⟩ : ∃ y, xs[0]? = some y := ⟨_, List.getElem?_eq_getElem (by rw [hyl]; decide)⟩
  obtain ⟨y1, u1⟩ : ∃ y, xs[1]? = some y := ⟨_, List.getElem?_eq_getElem (by rw [hyl]; decide)⟩
  obtain ⟨y2, u2⟩ : ∃ y, xs[2]? = some y := ⟨_, List.getElem?_eq_getElem (by rw [hyl]; decide)⟩
  obtain ⟨y3, u3⟩ : ∃ y, xs[3]? = some y := ⟨_, List.getElem?_eq_getElem (by rw [hyl]; decide)⟩
  obtain ⟨y4, u4⟩ : ∃ y, xs[4]? = some y := ⟨_, List.getElem?_eq_getElem (by rw [hyl]; decide)⟩
  obtain ⟨y5, u5⟩ : ∃ y, xs[5]? = some y := ⟨_, List.getElem?_eq_getElem (by rw [hyl]; decide)⟩
  obtain ⟨y6, u6⟩ : ∃ y, xs[6]? = some y := ⟨_, List.getElem?_eq_getElem (by rw [hyl]; decide)⟩
  obtain ⟨y7, u7⟩ : ∃ y, xs[7]? = some y := ⟨_, List.getElem?_eq_getElem (by rw [hyl]; decide)⟩
  obtain ⟨y8, u8⟩ : ∃ y, xs[8]? = some y := ⟨_, List.getElem?_eq_getElem (by rw [hyl]; decide)⟩
  obtain ⟨y9, u9⟩ : ∃ y, xs[9]? = some y := ⟨_, List.getElem?_eq_getElem (by rw [hyl]; decide)⟩
  have t0 := (hff 0 _ rfl).trans u0
  have t1 := (hff 1 _ rfl).trans u1
  have t2 := (hff 2 _ rfl).trans u2
  have t3 := (hff 3 _ rfl).trans u3
  have t4 := (hff 4 _ rfl).trans u4
  have t5 := (hff 5 _ rfl).trans u5
  have t6 := (hff 6 _ rfl).trans u6
  have t7 := (hff 7 _ rfl).trans u7
  have t8 := (hff 8 _ rfl).trans u8
  have t9 := (hff 9 _ rfl).trans u9
  have w1 := weighs_field Tryz.underlying36 hwe (j := 1) rfl (d := y1.1) (by simp [u1])
  have w3 := weighs_field Tryz.underlying36 hwe (j := 3) rfl (d := y3.1) (by simp [u3])
  have w5 := weighs_field Tryz.underlying36 hwe (j := 5) rfl (d := y5.1) (by simp [u5])
  have w7 := weighs_field Tryz.underlying36 hwe (j := 7) rfl (d := y7.1) (by simp [u7])
  match cs', hl, t0, t1, t2, t3, t4, t5, t6, t7, t8, t9 with
  | [c0, c1, c2, c3, c4, c5, c6, c7, c8, c9, c10], _, t0, t1, t2, t3, t4, t5, t6, t7, t8, t9 =>
    obtain ⟨n0, e0, _, f0⟩ := DataW.trod_int (t := 3) Tryz.underlying3 (show DataW.trod enc Tryz.prog w base sp held n2 3 [c0] = some y0 from t0)
    obtain ⟨g, e1, e1', _⟩ := DataW.trod_string (t := 9) Tryz.underlying9 (show DataW.trod enc Tryz.prog w base sp held n2 9 [c1] = some y1 from t1)
    obtain ⟨n2v, e2, _, f2⟩ := DataW.trod_int (t := 3) Tryz.underlying3 (show DataW.trod enc Tryz.prog w base sp held n2 3 [c2] = some y2 from t2)
    obtain ⟨TA, tc, T, e3, hT, hTl, hTz⟩ := open_strsz (y := y3) (show DataW.trod enc Tryz.prog w base sp held n2 31 [c3] = some y3 from t3) w3
    obtain ⟨n4, e4, _, f4⟩ := DataW.trod_int (t := 3) Tryz.underlying3 (show DataW.trod enc Tryz.prog w base sp held n2 3 [c4] = some y4 from t4)
    obtain ⟨PA, pc, P, e5, hP, hPl, hPz⟩ := open_tops0 (y := y5) (show DataW.trod enc Tryz.prog w base sp held n2 32 [c5] = some y5 from t5) w5
    obtain ⟨b6, e6, _⟩ := DataW.trod_bool (t := 4) Tryz.underlying4 (show DataW.trod enc Tryz.prog w base sp held n2 4 [c6] = some y6 from t6)
    obtain ⟨n3, get⟩ := open_cells (cs' := [c7, c8]) Tryz.underlying34 (by kernel_rfl) rfl (show DataW.trod enc Tryz.prog w base sp held n2 34 [c7, c8] = some y7 from t7) w7
    obtain ⟨a0, z0, q0, s0, v0⟩ := get 0 _ rfl
    obtain ⟨a1, z1, q1, s1, _⟩ := get 1 _ rfl
    obtain ⟨t, e7, e7', _⟩ := DataW.trod_string Tryz.underlying9 s0
    obtain ⟨i, e8, _, wf8⟩ := DataW.trod_int Tryz.underlying3 s1
    obtain ⟨n8, e9, _, f9⟩ := DataW.trod_int (t := 3) Tryz.underlying3 (show DataW.trod enc Tryz.prog w base sp held n2 3 [c9] = some y8 from t8)
    obtain ⟨n9, e10, _, f10⟩ := DataW.trod_int (t := 3) Tryz.underlying3 (show DataW.trod enc Tryz.prog w base sp held n2 3 [c10] = some y9 from t9)
    rw [e1'] at w1
    rw [e7'] at v0
    have sg := weighs_str w1
    have st := weighs_str v0
    subst e3
    subst e5
    simp at e0 e1 e2 e4 e6 e7 e8 e9 e10 q0 q1
    refine ⟨⟨n0, g, n2v, T, TA, tc, n4, P, PA, pc, b6, t, i, n8, n9⟩, ?_, ⟨hT, hTl, hTz, hP, hPl, hPz, sg, st, wf8⟩⟩
    unfold ocL
    rw [e0, e1, e2, e4, e6, q0, e7, q1, e8, e9, e10]
theorem ocL_len (x : OC) : (ocL x).length = 11 := rfl
set_option maxRecDepth 100000 in
theorem open_op {r : Reach} {b0 : Nat} {v : Value} {d : DataW H} {p : List MemPlace} (hv : Value.okWide Tryz.prog w r b0 36 v) (h : DataW.Trod enc Tryz.prog w base sp held 36 v d p) (hw : Weighs Tryz.prog 36 d) :
    ∃ x : OC, v = .agg (ocL x).toArray ∧ OCk w x := by
  obtain ⟨cs, rfl, hsz⟩ := okWide_struct Tryz.underlying36 hv
  obtain ⟨fuel, hf⟩ := h
  have hsz' : cs.size = 11 := hsz.trans (by kernel_rfl)
  obtain ⟨x, hx, hok⟩ := oc_of (cs' := cs.toList) (by simpa using hsz') hf hw
  exact ⟨x, by rw [← hx], hok⟩
end
end Go.Proofs.YtlokhhjhckiloaaGreat
/- coord: CoordNil, walked. No condition. -/
namespace Go.Proofs.YtlokhhjhckiloaaGreat
open Go.RowKit
set_option linter.unusedVariables false
theorem oc11 {w : World} {b : Nat} {t : TypeId} {x : OC} (h : Box w b t (ocL x).toArray) : w.cell? ⟨b, 0, none⟩ = some (.int .i64 x.do_) ∧ w.cell? ⟨b, 1, none⟩ = some (.string x.g) ∧ w.cell? ⟨b, 2, none⟩ = some (.int .i64 x.m) ∧ w.cell? ⟨b, 3, none⟩ = some (.slice x.TA x.T.length x.tc) ∧ w.cell? ⟨b, 4, none⟩ = some (.int .i64 x.gen) ∧ w.cell? ⟨b, 5, none⟩ = some (.slice x.PA x.P.length x.pc) ∧ w.cell? ⟨b, 6, none⟩ = some (.bool x.rnd) ∧ w.cell? ⟨b, 7, none⟩ = some (.string x.pt) ∧ w.cell? ⟨b, 8, none⟩ = some (.int .i64 x.pi) ∧ w.cell? ⟨b, 9, none⟩ = some (.int .i64 x.at_) ∧ w.cell? ⟨b, 10, none⟩ = some (.int .i64 x.now) ∧ b < w.heap.size :=
  ⟨(h.cell 0).trans rfl, (h.cell 1).trans rfl, (h.cell 2).trans rfl, (h.cell 3).trans rfl, (h.cell 4).trans rfl, (h.cell 5).trans rfl, (h.cell 6).trans rfl, (h.cell 7).trans rfl, (h.cell 8).trans rfl, (h.cell 9).trans rfl, (h.cell 10).trans rfl, h.lt⟩
set_option maxHeartbeats 16000000 in
set_option maxRecDepth 100000 in
theorem coordNil_walk (x : OC) (W : World) (_hx : OCk W x) : Calls Tryz.prog 4 #[.agg (ocL x).toArray] W (Good W (.bool true)) := by
  clear _hx
  have hbx := Box.new W 36 (ocL x).toArray
  have hB : Below W.heap.size W (W.alloc (.cells (ocL x).toArray 36)) := (Below.refl _ _).alloc (Nat.le_refl _) _
  have d1 := fun w => cnew_no 0 0 rfl w
  have d2 := fun w => n_join x.g x.m x.now x.T.length x.TA x.tc w
  have d3 := fun w => n_sync x.g x.m x.gen x.now x.PA x.P.length x.pc x.rnd w
  have d4 := fun w => n_committed x.g x.pt x.pi w
  have d5 := fun w => n_tick x.now w
  have d6 := fun w => n_beat x.g x.m x.gen x.now w
  have d7 := fun w => leave_nil' x.g x.m x.now w
  have d8 := fun w => may_nil x.g x.m x.gen w
  have d9 := fun w => n_commit x.g x.pt x.pi x.at_ w
  have d10 := fun w => n_drop x.g w
  have d11 := fun w => n_names w
  have d12 := fun w => n_group x.g w
  have d13 := fun w => live17_c w
  have fd4 := fieldV4
  have HX := Lib.hid hbx
  have HB := Lib.hid hB
  obtain ⟨x0, x1, x2, x3, x4, x5, x6, x7, x8, x9, x10, xl⟩ := oc11 hbx
  clear hbx hB
  go_enter Tryz.func4, Tryz.ntmps4
  go_wp2_with fail
  with_reducible refine (d1 _).mono ?_
  rintro e w1 ⟨rfl, hw⟩
  subst hw
  go_wp2_with fail
  with_reducible refine (d2 _).mono ?_
  rintro e w2 ⟨rfl, hb⟩
  have hA2 : Below w2.heap.size w2 (w2.alloc (.cells #[.int .i64 0, .int .i64 0, .int .i64 0] 41)) := (Below.refl _ _).alloc (Nat.le_refl _) _
  have HX2 := Lib.hid ((HX.out.later hb).later hA2)
  have HB2 := Lib.hid ((HB.out.trans (hb.mono HB.out.size)).trans (hA2.mono (Nat.le_trans HB.out.size hb.size)))
  clear hA2
  clear x0 x1 x2 x3 x4 x5 x6 x7 x8 x9 x10 xl hb HX HB d1 d2
  obtain ⟨x0, x1, x2, x3, x4, x5, x6, x7, x8, x9, x10, xl⟩ := oc11 HX2.out
  go_wp2_with fail
  with_reducible refine (d3 _).mono ?_
  rintro e w3 ⟨rfl, hw⟩
  subst hw
  go_wp2_with fail
  with_reducible refine (d4 _).mono ?_
  rintro e w4 ⟨rfl, hb⟩
  have HX4 := Lib.hid (HX2.out.later hb)
  have HB4 := Lib.hid (HB2.out.trans (hb.mono HB2.out.size))
  clear x0 x1 x2 x3 x4 x5 x6 x7 x8 x9 x10 xl hb HX2 HB2 d3 d4
  obtain ⟨x0, x1, x2, x3, x4, x5, x6, x7, x8, x9, x10, xl⟩ := oc11 HX4.out
  go_wp2_with fail
  with_reducible refine (d5 _).mono ?_
  rintro e w5 ⟨rfl, hb⟩
  have HX5 := Lib.hid (HX4.out.later hb)
  have HB5 := Lib.hid (HB4.out.trans (hb.mono HB4.out.size))
  clear x0 x1 x2 x3 x4 x5 x6 x7 x8 x9 x10 xl hb HX4 HB4 d5
  obtain ⟨x0, x1, x2, x3, x4, x5, x6, x7, x8, x9, x10, xl⟩ := oc11 HX5.out
  go_wp2_with fail
  with_reducible refine (d6 _).mono ?_
  rintro e w6 ⟨rfl, hw⟩
  subst hw
  go_wp2_with fail
  with_reducible refine (d7 _).mono ?_
  rintro e w7 ⟨rfl, hw⟩
  subst hw
  go_wp2_with fail
  with_reducible refine (d8 _).mono ?_
  rintro e w8 ⟨rfl, hw⟩
  subst hw
  go_wp2_with fail
  with_reducible refine (d9 _).mono ?_
  rintro e w9 ⟨rfl, hb⟩
  have HX9 := Lib.hid (HX5.out.later hb)
  have HB9 := Lib.hid (HB5.out.trans (hb.mono HB5.out.size))
  clear x0 x1 x2 x3 x4 x5 x6 x7 x8 x9 x10 xl hb HX5 HB5 d6 d7 d8 d9
  obtain ⟨x0, x1, x2, x3, x4, x5, x6, x7, x8, x9, x10, xl⟩ := oc11 HX9.out
  go_wp2_with fail
  with_reducible refine (d10 _).mono ?_
  rintro e w10 ⟨rfl, hw⟩
  subst hw
  go_wp2_with fail
  with_reducible refine (d11 _).mono ?_
  rintro e w11 ⟨rfl, hb⟩
  have HX11 := Lib.hid (HX9.out.later hb)
  have HB11 := Lib.hid (HB9.out.trans (hb.mono HB9.out.size))
  clear x0 x1 x2 x3 x4 x5 x6 x7 x8 x9 x10 xl hb HX9 HB9 d10 d11
  obtain ⟨x0, x1, x2, x3, x4, x5, x6, x7, x8, x9, x10, xl⟩ := oc11 HX11.out
  go_wp2_with fail
  with_reducible refine (d12 _).mono ?_
  rintro e w12 ⟨rfl, hb⟩
  have HB12 := Lib.hid (HB11.out.trans (hb.mono HB11.out.size))
  clear x0 x1 x2 x3 x4 x5 x6 x7 x8 x9 x10 xl HX11 HB11 d12 hb
  go_wp2_with fail
  with_reducible refine (d13 _).mono ?_
  rintro e w13 ⟨rfl, hb⟩
  go_wp2_with fail
  go_ret
  exact ⟨rfl, HB12.out.trans (hb.mono HB12.out.size)⟩
end Go.Proofs.YtlokhhjhckiloaaGreat
