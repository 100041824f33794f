/- coord: merged texts. What each proves is told at its head. -/
import Derived.Test.YtlokhhjhckiloaaGreatQN
import Derived.Test.YtlokhhjhckiloaaGreatQ5
/- coord: an argument that is a list of calls. No condition. -/
namespace Go.Proofs.YtlokhhjhckiloaaGreat
open Go.RowKit Go.WideShapes Go.ChangeShapes Go.Deep
set_option linter.unusedVariables false
section
variable {H : Type} {enc : TypeId × Value → H} {w : World} {base : Nat} {sp : Nat → Bool} {held : Bool}
def OcsIn (w : World) (A : Option Addr) (L : List OC) : Prop :=
  0 < L.length → ∃ b off, A = some ⟨b, off, none⟩ ∧ b < w.heap.size ∧ ∀ j x, L[j]? = some x → (∀ i, i < 11 → w.cell? ⟨b, off + j * 11 + i, none⟩ = (ocL x)[i]?) ∧ OCk w x
theorem OcsIn.at_ {w w' : World} {A : Option Addr} {L : List OC} (h : OcsIn w A L) (hb : Below w.heap.size w w') {k : Nat} {x : OC} (hk : L[k]? = some x) : ∃ b off, A = some ⟨b, off, none⟩ ∧ b < w'.heap.size ∧ (∀ i, i < 11 → w'.cell? ⟨b, off + k * 11 + i, none⟩ = (ocL x)[i]?) ∧ OCk w' x := by
  obtain ⟨b, off, hA, hl, hc⟩ := h (by have := (List.getElem?_eq_some_iff.1 hk).1; omega)
  obtain ⟨h0, h1⟩ := hc k x hk
  exact ⟨b, off, hA, Nat.lt_of_lt_of_le hl hb.size, fun i hi => (hb.cell (p := ⟨b, off + k * 11 + i, none⟩) hl).trans (h0 i hi), h1.later hb⟩
set_option maxRecDepth 100000 in
theorem open_cops {r : Reach} {b0 : Nat} {v : Value} {d : DataW H} {p : List MemPlace} (hv : Value.okWide Tryz.prog w r b0 22 v) (hh : DataW.Trod enc Tryz.prog w base sp held 22 v d p) (hw : Weighs Tryz.prog 22 d) :
    ∃ (A : Option Addr) (c : Nat) (L : List OC), v = .slice A L.length c ∧ OcsIn w A L := by
  obtain ⟨n, h⟩ := hh
  obtain ⟨A0, len0, cap0, rfl⟩ := okWide_slice Tryz.underlying22 hv
  rcases open_slice Tryz.underlying22 h with ⟨hcs, _⟩ | ⟨a, len, cap, m, n', D, Pl, hcs, _, hlc, _, hm, hx, hi⟩
  · have : Value.slice A0 len0 cap0 = .slice none 0 0 := by simpa [Value.cells] using hcs
    exact ⟨none, 0, [], this, fun hp => by simp at hp⟩
  · have hxv : Value.slice A0 len0 cap0 = .slice (some a) len cap := by simpa [Value.cells] using hcs
    have hlm : len ≤ m := by rw [hm]; split <;> omega
    have hD : d = .slice ((List.range len).map D) ((List.range (m - len)).map fun j => D (len + j)) := by simpa using congrArg Prod.fst hx
    rw [hD] at hw
    have key : ∀ i, i < len → ∃ x : OC, (∀ k, k < 11 → w.cell? ((a.add (i * 11)).add k) = (ocL x)[k]?) ∧ OCk w x := by
      intro i hil
      obtain ⟨cs', hc, ht'⟩ := hi i (by omega)
      rw [show Tryz.prog.cellsOf 36 = 11 by kernel_rfl] at hc
      obtain ⟨_, hcl2, hat⟩ := World.cells?_some hc
      have hwe : Weighs Tryz.prog 36 (D i) := weighs_elem Tryz.underlying22 hw (i := i) (by simp [hil])
      obtain ⟨x, rfl, hok⟩ := oc_of hcl2 ht' hwe
      exact ⟨x, fun k hk => hat k hk, hok⟩
    have hex : ∃ F : Nat → OC, ∀ i, i < len → (∀ k, k < 11 → w.cell? ((a.add (i * 11)).add k) = (ocL (F i))[k]?) ∧ OCk w (F i) := by
      classical
      refine ⟨fun i => if h : i < len then Classical.choose (key i h) else default, fun i hil => ?_⟩
      simp only [dif_pos hil]
      exact Classical.choose_spec (key i hil)
    obtain ⟨F, hF⟩ := hex
    refine ⟨some a, cap, (List.range len).map F, by simp [hxv], fun hp => ?_⟩
    have hp' : 0 < len := by simpa using hp
    obtain ⟨b, off, rfl, hb⟩ := addr_plain (w := w) (a := a) (v := .int .i64 (F 0).do_) (by
      have h0 := (hF 0 hp').1 0 (by decide)
      rw [Nat.zero_mul] at h0
      have e : ∀ a : Addr, a.add 0 = a := fun a => by unfold Addr.add; rfl
      rw [e, e] at h0
      rw [e]
      exact h0)
    refine ⟨b, off, rfl, hb, fun j o hj => ?_⟩
    obtain ⟨hj1, hj2⟩ := List.getElem?_eq_some_iff.1 hj
    have hj' : j < len := by simpa using hj1
    have : F j = o := by simpa using hj2
    subst this
    obtain ⟨h0, h1⟩ := hF j hj'
    simp only [add_at] at h0
    exact ⟨h0, h1⟩
end
end Go.Proofs.YtlokhhjhckiloaaGreat
/- coord: what the law CoordApart's walk wants: names, rows of Views and of numbers beside both coordinators. No condition. -/
namespace Go.Proofs.YtlokhhjhckiloaaGreat
open Go.RowKit Go.Maps Go.ChangeMaps Go.WideMaps
set_option linter.unusedVariables false
/-- Rows that the law keeps for itself. -/
def kindL (t : TypeId) : Prop := t = 57 ∨ t = 3
def badL (o : Obj) : Prop := ∃ cs t fr, o = .cells cs t fr ∧ kindL t
def KeepL (w w' : World) : Prop := ∀ (k : Nat) (o : Obj), w.heap[k]? = some o → ¬ badL o → w'.heap[k]? = some o
theorem badL_cells {cs : Array Value} {t : TypeId} {fr : Nat × Nat} (h : ¬ kindL t) : ¬ badL (.cells cs t fr) := by
  rintro ⟨cs', t', fr', e, ht⟩
  injection e with _ e2 _
  rw [← e2] at ht
  exact h ht
theorem KeepL.box {w w' : World} {b : Nat} {t : TypeId} {cs : Array Value} (h : KeepL w w') (hb : Box w b t cs) (ht : ¬ kindL t) : Box w' b t cs := h b _ hb (badL_cells ht)
theorem KeepL.row {w w' : World} {base t size n : Nat} {v : Value} {xs : List Value} (h : KeepL w w') (hr : w.ownsRow base t size v n xs) (ht : ¬ kindL t) : w'.ownsRow base t size v n xs := by
  refine ⟨hr.1, ?_⟩
  rcases hr.2 with h0 | ⟨g, cap, cur, hv, hb, hg, hx⟩
  · exact .inl h0
  · exact .inr ⟨g, cap, cur, hv, hb, h g _ hg (badL_cells ht), hx⟩
theorem KeepL.of_below {w w' : World} (hb : Below w.heap.size w w') : KeepL w w' := fun k o hk _ => (hb.block k (Array.getElem?_eq_some_iff.1 hk).1).trans hk
theorem KeepL.trans {w w' w'' : World} (h : KeepL w w') (k : KeepL w' w'') : KeepL w w'' := fun i o hi hb => k i o (h i o hi hb) hb
/-- A row of such a kind is appended to. -/
theorem KeepL.grown {w w' : World} {base t size n : Nat} {v : Value} {xs : List Value} (hr : w.ownsRow base t size v n xs) (ht : kindL t) (hg : w.grownBy w' v.ownBlock) : KeepL w w' := fun k o hk hn => by
  have hl := (Array.getElem?_eq_some_iff.1 hk).1
  have ho : Off (fun k => v.ownBlock = some k) w w' := (Off.refl _ w).grown hg (fun k hk _ => hk)
  refine (ho.block k hl ?_).trans hk
  intro e
  rcases hr.2 with ⟨hv, _⟩ | ⟨g, cap, cur, hv, hb, hh, hx⟩
  · rw [hv] at e; cases e
  · rw [hv] at e
    have : g = k := by simpa [Value.ownBlock] using e
    subst this
    rw [hh] at hk
    injection hk with hk
    exact hn (by rw [← hk]; exact ⟨_, _, _, rfl, ht⟩)
section
variable {W w w' : World} {p g o og q c t : Nat} {A : Option Addr} {k ss rb : Int} {F H : List CE} {V : Nat → Value} {D : Nat → GD} {O OK : List Of.KE} {st sk : List UInt8 → Option GD} {n nk : Nat}
theorem CO.keepL (h : CO W w p g o og k ss rb F H V D O) (hk : KeepL w w') (hbel : Below W.heap.size W w') : CO W w' p g o og k ss rb F H V D O := by
  refine ⟨⟨hk.box h.is.box (by unfold kindL; decide), ?_, h.is.rise⟩, h.hp, h.hg, h.sub, fun e he => ?_, h.nd, h.ap, ⟨⟨hk.box h.ot.is.box (by unfold kindL; decide), ?_, h.ot.is.rise⟩, h.ot.hp, h.ot.hg, h.ot.ok⟩, h.sep, hbel, h.few, h.nm, h.ss, h.rb⟩
  · obtain ⟨es, clock, hb, Ft, hs, hD⟩ := h.is.map
    exact ⟨es, clock, hk g _ hb (fun ⟨cs', t', fr, e, _⟩ => by cases e), Ft, hs, hD⟩
  · obtain ⟨R, hR⟩ := (h.grp e he).is
    exact ⟨⟨R, hk.box hR.box (by unfold kindL; decide), hR.base, hk.row hR.row (by unfold kindL; decide), fun x hx => ⟨hk.row (hR.all x hx).tr (by unfold kindL; decide), hk.row (hR.all x hx).pr (by unfold kindL; decide)⟩, hR.abs⟩, (h.grp e he).q, (h.grp e he).n, hbel⟩
  · obtain ⟨es, clock, hb, Ft, hs, hD⟩ := h.ot.is.map
    exact ⟨es, clock, hk og _ hb (fun ⟨cs', t', fr, e, _⟩ => by cases e), Ft, hs, hD⟩
theorem KO.keepL (h : KO W w q c t A k ss rb F V D O) (hk : KeepL w w') (hbel : Below W.heap.size W w') : KO W w' q c t A k ss rb F V D O := by
  obtain ⟨L, A2, c2, h1, h2⟩ := h.rd
  refine ⟨⟨hk.box h.is.box (by unfold kindL; decide), hk.row h.is.row (by unfold kindL; decide), h.is.base⟩, h.rise, fun e he => ?_, h.nd, h.ap, ⟨L, A2, c2, ⟨hk.box h1.box (by unfold kindL; decide), hk.row h1.row (by unfold kindL; decide)⟩, h2⟩, h.ok, h.ht, hbel, h.few, h.nm, h.ss, h.rb⟩
  obtain ⟨R, hR⟩ := (h.grp e he).is
  exact ⟨⟨R, hk.box hR.box (by unfold kindL; decide), hR.base, hk.row hR.row (by unfold kindL; decide), fun x hx => ⟨hk.row (hR.all x hx).tr (by unfold kindL; decide), hk.row (hR.all x hx).pr (by unfold kindL; decide)⟩, hR.abs⟩, (h.grp e he).q, (h.grp e he).n⟩
theorem PA.keepL (h : PA W p q t k ss rb st sk n nk O OK w) (hk : KeepL w w') (hbel : Below W.heap.size W w') : PA W p q t k ss rb st sk n nk O OK w' := by
  obtain ⟨⟨g, o, og, F, V, D, h1, h2, h3⟩, c, A, F', V', D', k1, k2, k3⟩ := h
  exact ⟨⟨g, o, og, F, V, D, h1.keepL hk hbel, h2, h3⟩, c, A, F', V', D', k1.keepL hk hbel, k2, k3⟩
def strB (N : List ByteArray) : List Value := N.map .string
theorem strB_len (N : List ByteArray) : (strB N).length = N.length := List.length_map _
theorem pa_names (h : PA W p q t k ss rb st sk n nk O OK w) : Calls Tryz.prog 21 #[.pointer (some ⟨p, 0, none⟩)] w (fun e w' => ∃ (A : Option Addr) (c : Nat) (N : List ByteArray), e = .returned (.slice A N.length c) ∧ w'.ownsRow w.heap.size 9 1 (.slice A N.length c) N.length (strB N) ∧ N.length ≤ 20 ∧ (∀ s ∈ N, s.size ≤ 100) ∧ Below w.heap.size w w') := by
  obtain ⟨g, o, og, F, V, D, c, A, F', V', D', h1, k1, rfl, rfl, rfl, rfl⟩ := h.elim
  refine (cnames_c w h1.is h1.nm (by have := h1.few; omega)).mono ?_
  rintro e w' ⟨v, rfl, hr, hb⟩
  obtain ⟨A2, c2, rfl⟩ := own_slice hr
  have hl : (F.map nmA).length = F.length := List.length_map _
  have hs : strB (F.map nmA) = nmsV F := by unfold strB nmsV; rw [List.map_map]; rfl
  refine ⟨A2, c2, F.map nmA, by rw [hl], by rw [hl, hs]; exact hr, by rw [hl]; exact h1.few, fun s hs => ?_, hb⟩
  obtain ⟨e, he, rfl⟩ := List.mem_map.1 hs
  show (nmA e).data.size ≤ 100
  rw [← Array.length_toList, nmA_list]
  exact h1.nm e he
/-- What Group tells. -/
theorem pa_group (h : PA W p q t k ss rb st sk n nk O OK w) (s : ByteArray) (hs : s.size ≤ maxLen) : Calls Tryz.prog 22 #[.pointer (some ⟨p, 0, none⟩), .string s] w (fun e w' => ∃ (A : Option Addr) (c : Nat), e = .returned (.agg #[.int .i64 ((st s.data.toList).getD zG).ph, .int .i64 ((st s.data.toList).getD zG).gn, .int .i64 ((st s.data.toList).getD zG).nx, .int .i64 ((st s.data.toList).getD zG).un, .slice A ((st s.data.toList).getD zG).L.length c]) ∧ Below w.heap.size w w') := by
  refine (group_x h.1 s hs).mono ?_
  rintro e w' ⟨v, R, rfl, hr, hm, ha, hb⟩
  obtain ⟨A2, c2, rfl⟩ := own_slice hr
  have hl : R.length = ((st s.data.toList).getD zG).L.length := by rw [← ha, List.length_map]
  exact ⟨A2, c2, by rw [hl], hb⟩
end
end Go.Proofs.YtlokhhjhckiloaaGreat
/- offsets within coord: what is committed to one key is nothing to another one. Plain laws. No condition. -/
namespace Go.Proofs.YtlokhhjhckiloaaGreat.Of
open Go.RowKit Go.Maps Go.ChangeMaps Go.WideMaps Go.WideAt
set_option linter.unusedVariables false
theorem find_ins {p : KE → Bool} {x : KE} (hx : p x = false) : ∀ F : List KE, (insK x F).find? p = F.find? p
  | [] => by unfold insK; simp [hx]
  | y :: r => by
    unfold insK
    split
    · rw [List.find?_cons_of_neg (by simp [hx])]
    · rw [List.find?_cons, List.find?_cons, find_ins hx r]
theorem find_min {n m : List UInt8} (h : n ≠ m) : ∀ F : List KE, ofK (minK F m) n = ofK F n
  | [] => rfl
  | y :: r => by
    have ih := find_min h r
    unfold ofK minK at *
    by_cases e : kyB y.1 = m
    · rw [List.filter_cons_of_neg (by simp [e]), List.find?_cons_of_neg (by simp [e]; exact fun e => h e.symm)]
      exact ih
    · rw [List.filter_cons_of_pos (by simp [e]), List.find?_cons, List.find?_cons, ih]
theorem of_put_other {F : List KE} {x : KE} {n : List UInt8} (h : n ≠ kyB x.1) : ofK (putK x F) n = ofK F n := by
  unfold putK
  rw [← find_min h F]
  unfold ofK
  exact find_ins (by simp; exact fun e => h e.symm) _
theorem of_put_same {F : List KE} {x : KE} : ofK (putK x F) (kyB x.1) = some x := by
  have h : x ∈ putK x F := putK_mem.2 (.inl rfl)
  have hs : (ofK (putK x F) (kyB x.1)).isSome = true := by
    unfold ofK
    rw [List.find?_isSome]
    exact ⟨x, h, by simp⟩
  obtain ⟨e, he⟩ := Option.isSome_iff_exists.1 hs
  obtain ⟨h1, h2⟩ := ofK_mem he
  rcases putK_mem.1 h1 with rfl | ⟨_, h3⟩
  · exact he
  · exact absurd h2 h3
/-- What is committed to one key is nothing to another one. -/
theorem get_other {room : Int} {F : List KE} {k k' : KY} {a : Int} (hk' : KyOk k') (hne : k ≠ k') : geR (coS room F k a) k' = geR F k' := by
  unfold coS
  split
  · rename_i hr
    have hm : mayK k = true := by
      unfold coR at hr
      split at hr
      · rename_i h; simp only [Bool.and_eq_true] at h; exact h.1
      · omega
    have h2 : kyB k' ≠ kyB k := fun e => hne (kyB_inj (mayK_ok hm) hk' e.symm)
    have h3 : ofK (putK (k, a) F) (kyB k') = ofK F (kyB k') := of_put_other (x := (k, a)) h2
    unfold geR
    rw [h3]
  · rfl
end Go.Proofs.YtlokhhjhckiloaaGreat.Of
/- coord: the law CoordApart walks to true. No condition. -/
namespace Go.Proofs.YtlokhhjhckiloaaGreat
open Go.RowKit Go.Maps Go.ChangeMaps Go.WideMaps
set_option linter.unusedVariables false
theorem viewInfo : (Tryz.prog.info? 57).map (fun i => (i.zero, i.size, i.bytes)) = some (some (.agg #[.int .i64 0, .int .i64 0, .int .i64 0, .int .i64 0, .slice none 0 0]), 5, 56) := by kernel_rfl
theorem intInfo' : (Tryz.prog.info? 3).map (fun i => (i.zero, i.size, i.bytes)) = some (some (.int .i64 0), 1, 8) := by kernel_rfl
/-- A View as it stands in a row. -/
def vwC (m : GD × Option Addr × Nat) : List Value := [.int .i64 m.1.ph, .int .i64 m.1.gn, .int .i64 m.1.nx, .int .i64 m.1.un, .slice m.2.1 m.1.L.length m.2.2]
def vwR (M : List (GD × Option Addr × Nat)) : List Value := M.flatMap vwC
theorem vwR_len : ∀ M : List (GD × Option Addr × Nat), (vwR M).length = M.length * 5
  | [] => rfl
  | a :: l => by
    have := vwR_len l
    show (vwC a ++ vwR l).length = (l.length + 1) * 5
    rw [List.length_append, this]
    show 5 + l.length * 5 = _
    omega
theorem vwR_one (M : List (GD × Option Addr × Nat)) : ∀ y ∈ vwR M, y.oneCell' = true := by
  intro y hy
  obtain ⟨x, _, hs⟩ := List.mem_flatMap.1 hy
  simp [vwC] at hs
  rcases hs with rfl | rfl | rfl | rfl | rfl <;> rfl
theorem vwR_at : ∀ {M : List (GD × Option Addr × Nat)} {j : Nat} {m : GD × Option Addr × Nat}, M[j]? = some m → ∀ q y, (vwC m)[q]? = some y → (vwR M)[j * 5 + q]? = some y
  | [], j, m, h, _, _, _ => by cases h
  | a :: l, 0, m, h, q, y, hq => by
    have : a = m := by simpa using h
    subst this
    show (vwC a ++ vwR l)[0 * 5 + q]? = some y
    rw [Nat.zero_mul, Nat.zero_add, List.getElem?_append_left (List.getElem?_eq_some_iff.1 hq).1]
    exact hq
  | a :: l, j + 1, m, h, q, y, hq => by
    have ih := vwR_at (M := l) (j := j) (m := m) (by simpa using h) q y hq
    show (vwC a ++ vwR l)[(j + 1) * 5 + q]? = some y
    rw [List.getElem?_append_right (by show 5 ≤ _; omega)]
    show (vwR l)[(j + 1) * 5 + q - 5]? = some y
    rw [show (j + 1) * 5 + q - 5 = j * 5 + q by omega]
    exact ih
theorem vwR_snoc (M : List (GD × Option Addr × Nat)) (m : GD × Option Addr × Nat) : vwR (M ++ [m]) = vwR M ++ vwC m := by unfold vwR; simp
def gdN (st : List UInt8 → Option GD) (s : ByteArray) : GD := (st s.data.toList).getD zG
def geN (O : List Of.KE) (x : OC) (s : ByteArray) : Int := (Of.geR O ⟨s, x.pt, x.pi⟩).1
def atR (O : List Of.KE) (x : OC) (N : List ByteArray) : List Value := N.map fun s => .int .i64 (geN O x s)
theorem atR_len (O : List Of.KE) (x : OC) (N : List ByteArray) : (atR O x N).length = N.length := List.length_map _
theorem step_other {x : OC} {gg ss rb : Int} {st : List UInt8 → Option GD} {n : Nat} (hd : 0 ≤ x.do_ ∧ x.do_ ≤ 5) {s : ByteArray} (hs : s ≠ x.g) : gdN (stepSt x gg st n ss rb) s = gdN st s := by
  have hne : ¬ s.data.toList = x.g.data.toList := fun e => hs (by
    cases s; cases hx : x.g
    rw [hx] at e
    simp only at e
    congr 1
    exact Array.toList_inj.1 e)
  have key : ∀ g, putSt st x.g.data.toList g s.data.toList = st s.data.toList := fun g => by unfold putSt; rw [if_neg hne]
  unfold gdN stepSt
  by_cases h0 : x.do_ = 0
  · rw [if_pos h0]
    unfold joSt
    split
    · rw [key]
    · rfl
  · rw [if_neg h0]
    by_cases h1 : x.do_ = 1
    · rw [if_pos h1, key]
    · rw [if_neg h1]
      by_cases h2 : x.do_ = 2
      · rw [if_pos h2, key]
      · rw [if_neg h2]
        by_cases h3 : x.do_ = 3
        · rw [if_pos h3, key]
        · rw [if_neg h3, if_pos (by omega)]
theorem stepO_other {x : OC} {c : Bool} {O : List Of.KE} (hd : 0 ≤ x.do_ ∧ x.do_ ≤ 5) {s : ByteArray} (hs : s ≠ x.g) (hk : Of.KyOk ⟨s, x.pt, x.pi⟩) : geN (stepOO x c O) x s = geN O x s := by
  unfold geN stepOO
  by_cases h4 : x.do_ = 4
  · rw [if_pos h4]
    cases c with
    | true =>
      rw [if_pos rfl, Of.get_other hk (fun e => hs (by injection e with e1 _ _; exact e1.symm))]
    | false => rw [if_neg (by decide)]
  · rw [if_neg h4, if_neg (by omega)]
/-- What the law has in its hands ahead of a step. -/
structure Lp (W : World) (p q t : Nat) (k ss rb : Int) (st sk : List UInt8 → Option GD) (n nk : Nat) (O OK : List Of.KE) (b : Nat) (x : OC) (N : List ByteArray) (NA : Option Addr) (nc j1 j2 : Nat) (M : List (GD × Option Addr × Nat)) (wA : Option Addr) (wc : Nat) (aA : Option Addr) (ac : Nat) (w : World) : Prop where
  pa : PA W p q t k ss rb st sk n nk O OK w
  bx : Box w b 36 (ocL x).toArray
  nm : w.ownsRow W.heap.size 9 1 (.slice NA N.length nc) N.length (strB N)
  ws : w.ownsRow W.heap.size 57 5 (.slice wA j1 wc) j1 (vwR M)
  av : w.ownsRow W.heap.size 3 1 (.slice aA j2 ac) j2 (atR O x (N.take j2))
  ml : M.map Prod.fst = (N.take j1).map (gdN st)
  le1 : j1 ≤ N.length
  le2 : j2 ≤ N.length
section
variable {W w w' : World} {p q t : Nat} {k ss rb : Int} {st sk : List UInt8 → Option GD} {n nk : Nat} {O OK : List Of.KE} {b : Nat} {x : OC} {N : List ByteArray} {NA : Option Addr} {nc j1 j2 : Nat} {M : List (GD × Option Addr × Nat)} {wA : Option Addr} {wc : Nat} {aA : Option Addr} {ac : Nat}
theorem Lp.later (h : Lp W p q t k ss rb st sk n nk O OK b x N NA nc j1 j2 M wA wc aA ac w) (hb : Below w.heap.size w w') : Lp W p q t k ss rb st sk n nk O OK b x N NA nc j1 j2 M wA wc aA ac w' :=
  ⟨h.pa.later hb, h.bx.later hb, own_below h.nm hb, own_below h.ws hb, own_below h.av hb, h.ml, h.le1, h.le2⟩
/-- A name. -/
theorem Lp.name (h : Lp W p q t k ss rb st sk n nk O OK b x N NA nc j1 j2 M wA wc aA ac w) {j : Nat} {s : ByteArray} (hs : N[j]? = some s) : ∃ g, NA = some ⟨g, 0, none⟩ ∧ g < w.heap.size ∧ w.cell? ⟨g, j, none⟩ = some (.string s) := by
  obtain ⟨g, e, hl, _, _, hc⟩ := own_in h.nm (by have := (List.getElem?_eq_some_iff.1 hs).1; omega)
  exact ⟨g, e, hl, hc j _ (by unfold strB; rw [List.getElem?_map, hs]; rfl)⟩
/-- One View more. -/
theorem Lp.push1 (h : Lp W p q t k ss rb st sk n nk O OK b x N NA nc j1 j2 M wA wc aA ac w) (hj : j1 ≤ 20) {s : ByteArray} (hs : N[j1]? = some s) (A : Option Addr) (c : Nat) :
    ∃ wA' wc' w', (Builtin.append_ #[59, 59] 59 #[.slice wA j1 wc, .slice (some ⟨w.heap.size, 0, none⟩) 1 1]).run Tryz.prog (w.alloc (.cells #[.int .i64 (gdN st s).ph, .int .i64 (gdN st s).gn, .int .i64 (gdN st s).nx, .int .i64 (gdN st s).un, .slice A (gdN st s).L.length c] 57)) = .ok (.slice wA' (j1 + 1) wc') w' ∧
      Lp W p q t k ss rb st sk n nk O OK b x N NA nc (j1 + 1) j2 (M ++ [(gdN st s, A, c)]) wA' wc' aA ac w' := by
  have hA : Below w.heap.size w (w.alloc (.cells #[.int .i64 (gdN st s).ph, .int .i64 (gdN st s).gn, .int .i64 (gdN st s).nx, .int .i64 (gdN st s).un, .slice A (gdN st s).L.length c] 57)) := (Below.refl _ _).alloc (Nat.le_refl _) _
  have hL := h.later hA
  obtain ⟨A', c', w', r1, o1, g1⟩ := catZ (t := 59) (ys := vwC (gdN st s, A, c)) (u := .slice (some ⟨w.heap.size, 0, none⟩) 1 1) (m := 1) (by decide) Tryz.underlying59 viewInfo rfl (by decide) hL.ws (.inr ⟨_, _, rfl, rfl, fun i y hy => by
    rw [add_spot, Nat.zero_add, (Box.new w 57 _).cell i]
    simpa [vwC] using hy⟩) (fun y hy => vwR_one [(gdN st s, A, c)] y (by simpa [vwR] using hy)) hL.pa.bel.size (by omega)
  refine ⟨A', c', w', r1, ?_⟩
  have hkl := KeepL.grown hL.ws (.inl rfl) g1
  have hO : Off (fun i => (Value.slice wA j1 wc).ownBlock = some i) (w.alloc (.cells #[.int .i64 (gdN st s).ph, .int .i64 (gdN st s).gn, .int .i64 (gdN st s).nx, .int .i64 (gdN st s).un, .slice A (gdN st s).L.length c] 57)) w' := (Off.refl _ _).grown g1 (fun i hi _ => hi)
  have hbel : Below W.heap.size W w' := hL.pa.bel.trans (hO.below hL.pa.bel.size (fun i hi => (hL.ws.lt i hi).1))
  have hjl := (List.getElem?_eq_some_iff.1 hs).1
  refine ⟨hL.pa.keepL hkl hbel, hkl.box hL.bx (by unfold kindL; decide), hkl.row hL.nm (by unfold kindL; decide), ?_, own_off hL.av hO (fun i hi e => own_two hL.ws hL.av (by decide) i e hi), ?_, hjl, h.le2⟩
  · rw [vwR_snoc]
    exact o1
  · rw [List.map_append, h.ml, List.take_add_one, hs]
    simp
/-- One number more. -/
theorem Lp.push2 (h : Lp W p q t k ss rb st sk n nk O OK b x N NA nc j1 j2 M wA wc aA ac w) (hj : j2 ≤ 20) {s : ByteArray} (hs : N[j2]? = some s) :
    ∃ aA' ac' w', (Builtin.append_ #[60, 60] 60 #[.slice aA j2 ac, .slice (some ⟨w.heap.size, 0, none⟩) 1 1]).run Tryz.prog (w.alloc (.cells #[.int .i64 (geN O x s)] 3)) = .ok (.slice aA' (j2 + 1) ac') w' ∧
      Lp W p q t k ss rb st sk n nk O OK b x N NA nc j1 (j2 + 1) M wA wc aA' ac' w' := by
  have hA : Below w.heap.size w (w.alloc (.cells #[.int .i64 (geN O x s)] 3)) := (Below.refl _ _).alloc (Nat.le_refl _) _
  have hL := h.later hA
  obtain ⟨A', c', w', r1, o1, g1⟩ := catZ (t := 60) (ys := [Value.int .i64 (geN O x s)]) (u := .slice (some ⟨w.heap.size, 0, none⟩) 1 1) (m := 1) (by decide) Tryz.underlying60 intInfo' rfl (by decide) hL.av (.inr ⟨_, _, rfl, rfl, fun i y hy => by
    rw [add_spot, Nat.zero_add, (Box.new w 3 _).cell i]
    simpa using hy⟩) (fun y hy => by
      have : y = _ := List.mem_singleton.1 hy
      rw [this]; rfl) hL.pa.bel.size (by omega)
  refine ⟨A', c', w', r1, ?_⟩
  have hkl := KeepL.grown hL.av (.inr rfl) g1
  have hO : Off (fun i => (Value.slice aA j2 ac).ownBlock = some i) (w.alloc (.cells #[.int .i64 (geN O x s)] 3)) w' := (Off.refl _ _).grown g1 (fun i hi _ => hi)
  have hbel : Below W.heap.size W w' := hL.pa.bel.trans (hO.below hL.pa.bel.size (fun i hi => (hL.av.lt i hi).1))
  have hjl := (List.getElem?_eq_some_iff.1 hs).1
  refine ⟨hL.pa.keepL hkl hbel, hkl.box hL.bx (by unfold kindL; decide), hkl.row hL.nm (by unfold kindL; decide), own_off hL.ws hO (fun i hi e => own_two hL.av hL.ws (by decide) i e hi), ?_, h.ml, h.le1, hjl⟩
  have : atR O x (N.take (j2 + 1)) = atR O x (N.take j2) ++ [.int .i64 (geN O x s)] := by
    rw [List.take_add_one, hs]
    simp [atR]
  rw [this]
  exact o1
/-- Behind a step. -/
structure Lq (W : World) (p q t : Nat) (k ss rb : Int) (st sk : List UInt8 → Option GD) (n nk : Nat) (O OK : List Of.KE) (b : Nat) (x : OC) (N : List ByteArray) (NA : Option Addr) (nc : Nat) (O0 : List Of.KE) (st0 : List UInt8 → Option GD) (M : List (GD × Option Addr × Nat)) (wA : Option Addr) (wc : Nat) (aA : Option Addr) (ac : Nat) (w : World) : Prop where
  pa : PA W p q t k ss rb st sk n nk O OK w
  bx : Box w b 36 (ocL x).toArray
  nm : w.ownsRow W.heap.size 9 1 (.slice NA N.length nc) N.length (strB N)
  ws : w.ownsRow W.heap.size 57 5 (.slice wA N.length wc) N.length (vwR M)
  av : w.ownsRow W.heap.size 3 1 (.slice aA N.length ac) N.length (atR O0 x N)
  ml : M.map Prod.fst = N.map (gdN st0)
theorem Lp.step {k' : Int} {st' sk' : List UInt8 → Option GD} {n' nk' : Nat} {O' OK' : List Of.KE} (h : Lp W p q t k ss rb st sk n nk O OK b x N NA nc N.length N.length M wA wc aA ac w) (hp : PA W p q t k' ss rb st' sk' n' nk' O' OK' w') (hk : KB w w') : Lq W p q t k' ss rb st' sk' n' nk' O' OK' b x N NA nc O st M wA wc aA ac w' := by
  have h1 := h.av
  have h2 := h.ml
  rw [List.take_length] at h1 h2
  exact ⟨hp, hk.op h.bx, hk.row h.nm (by decide) (by decide) (by unfold kindK; decide), hk.row h.ws (by decide) (by decide) (by unfold kindK; decide), hk.row h1 (by decide) (by decide) (by unfold kindK; decide), h2⟩
theorem Lq.later {O0 : List Of.KE} {st0 : List UInt8 → Option GD} (h : Lq W p q t k ss rb st sk n nk O OK b x N NA nc O0 st0 M wA wc aA ac w) (hb : Below w.heap.size w w') : Lq W p q t k ss rb st sk n nk O OK b x N NA nc O0 st0 M wA wc aA ac w' :=
  ⟨h.pa.later hb, h.bx.later hb, own_below h.nm hb, own_below h.ws hb, own_below h.av hb, h.ml⟩
theorem Lq.name {O0 : List Of.KE} {st0 : List UInt8 → Option GD} (h : Lq W p q t k ss rb st sk n nk O OK b x N NA nc O0 st0 M wA wc aA ac w) {j : Nat} {s : ByteArray} (hs : N[j]? = some s) : ∃ g, NA = some ⟨g, 0, none⟩ ∧ g < w.heap.size ∧ w.cell? ⟨g, j, none⟩ = some (.string s) := by
  obtain ⟨g, e, hl, _, _, hc⟩ := own_in h.nm (by have := (List.getElem?_eq_some_iff.1 hs).1; omega)
  exact ⟨g, e, hl, hc j _ (by unfold strB; rw [List.getElem?_map, hs]; rfl)⟩
/-- What stood in both rows ahead of the step. -/
theorem Lq.was {O0 : List Of.KE} {st0 : List UInt8 → Option GD} (h : Lq W p q t k ss rb st sk n nk O OK b x N NA nc O0 st0 M wA wc aA ac w) {j : Nat} {s : ByteArray} (hs : N[j]? = some s) : ∃ g1 g2 mA mc, wA = some ⟨g1, 0, none⟩ ∧ aA = some ⟨g2, 0, none⟩ ∧ g1 < w.heap.size ∧ g2 < w.heap.size ∧ N.length ≤ wc ∧ N.length ≤ ac ∧ w.cell? ⟨g2, j, none⟩ = some (.int .i64 (geN O0 x s)) ∧ w.cell? ⟨g1, j * 5, none⟩ = some (.int .i64 (gdN st0 s).ph) ∧ w.cell? ⟨g1, j * 5 + 1, none⟩ = some (.int .i64 (gdN st0 s).gn) ∧ w.cell? ⟨g1, j * 5 + 3, none⟩ = some (.int .i64 (gdN st0 s).un) ∧ w.cell? ⟨g1, j * 5 + 4, none⟩ = some (.slice mA (gdN st0 s).L.length mc) := by
  have hjl := (List.getElem?_eq_some_iff.1 hs).1
  obtain ⟨g1, e1, hl1, _, hc1, hx1⟩ := own_in h.ws (by omega)
  obtain ⟨g2, e2, hl2, _, hc2, hx2⟩ := own_in h.av (by omega)
  have hml := congrArg (fun l => l[j]?) h.ml
  simp only [List.getElem?_map, hs, Option.map_some] at hml
  cases hm : M[j]? with
  | none => rw [hm] at hml; cases hml
  | some m =>
    rw [hm] at hml
    obtain ⟨G, mA, mc⟩ := m
    have hG : G = gdN st0 s := by
      simp only [Option.map_some] at hml
      injection hml
    subst hG
    refine ⟨g1, g2, mA, mc, e1, e2, hl1, hl2, hc1, hc2, hx2 j _ (by unfold atR; rw [List.getElem?_map, hs]; rfl), ?_, ?_, ?_, ?_⟩
    · exact hx1 _ _ (vwR_at hm 0 _ rfl)
    · exact hx1 _ _ (vwR_at hm 1 _ rfl)
    · exact hx1 _ _ (vwR_at hm 3 _ rfl)
    · exact hx1 _ _ (vwR_at hm 4 _ rfl)
end
def smallC (x : OC) : Bool := decide (x.T.length ≤ 30) && decide (x.P.length ≤ 30)
set_option maxRecDepth 100000 in
theorem smallc_c (x : OC) (W : World) : Calls Tryz.prog 9 #[.agg (ocL x).toArray] W (fun e w' => e = .returned (.bool (smallC x)) ∧ Below W.heap.size W w') := by
  have hB : Below W.heap.size W (W.alloc (.cells (ocL x).toArray 36)) := (Below.refl _ _).alloc (Nat.le_refl _) _
  obtain ⟨x0, x1, x2, x3, x4, x5, x6, x7, x8, x9, x10, xl⟩ := occ11 (Box.new W 36 (ocL x).toArray)
  have HB := Lib.hid hB
  clear hB
  unfold smallC
  by_cases h : x.T.length ≤ 30
  · rw [decide_eq_true h]
    have hi : (x.T.length : Int) ≤ 30 := by omega
    by_cases h2 : x.P.length ≤ 30
    · rw [decide_eq_true h2]
      have hi2 : (x.P.length : Int) ≤ 30 := by omega
      go_enter Tryz.func9, Tryz.ntmps9
      go_wp2_with fail
      go_ret
      exact ⟨rfl, HB.out⟩
    · rw [decide_eq_false h2]
      have hi2 : ¬ (x.P.length : Int) ≤ 30 := by omega
      go_enter Tryz.func9, Tryz.ntmps9
      go_wp2_with fail
      go_ret
      exact ⟨rfl, HB.out⟩
  · rw [decide_eq_false h]
    have hi : ¬ (x.T.length : Int) ≤ 30 := by omega
    go_enter Tryz.func9, Tryz.ntmps9
    go_wp2_with fail
    go_ret
    exact ⟨rfl, HB.out⟩
end Go.Proofs.YtlokhhjhckiloaaGreat
