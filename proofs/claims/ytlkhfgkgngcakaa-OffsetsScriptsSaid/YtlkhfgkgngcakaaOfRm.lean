/- offsets: Forget, by a contract. No condition. -/
import Derived.Test.YtlkhfgkgngcakaaOfDf
import Derived.Test.YtlkhfgkgngcakaaOfCi
namespace Go.Proofs.Ytlkhfgkgngcakaa
open Go.RowKit Go.Maps Go.ChangeMaps Go.WideMaps
set_option linter.unusedVariables false
/-- Is it a key of this group? -/
noncomputable def pdG (s : ByteArray) (kl : Lit) (_ : DataW Unit) : Bool := @decide (∃ k : KY, keyOf Try.prog 45 (kyV k) = some kl ∧ k.g = s) (Classical.propDecidable _)
theorem kyV_inj {k k' : KY} (h : kyV k = kyV k') : k = k' := by
  obtain ⟨g, t, i⟩ := k
  obtain ⟨g', t', i'⟩ := k'
  unfold kyV at h
  simp at h
  obtain ⟨rfl, rfl, rfl⟩ := h
  rfl
theorem pdG_of {s : ByteArray} {k : KY} {kl : Lit} {y : DataW Unit} (h : keyOf Try.prog 45 (kyV k) = some kl) : pdG s kl y = decide (k.g = s) := by
  unfold pdG
  rw [decide_eq_decide]
  constructor
  · rintro ⟨k', h', e⟩
    have := kyV_inj (kyKeyed.inj h' h)
    rw [← this]; exact e
  · intro e
    exact ⟨k, h, e⟩
theorem fg1_c (k : KY) (s : ByteArray) (b : Nat) (W : World) (hx : W.cell? ⟨b, 0, none⟩ = some (.string s)) (hb : b < W.heap.size) : Calls Try.prog 30 #[.agg #[.string k.g, .string k.t, .int .i64 k.i], .pointer (some ⟨b, 0, none⟩)] W (fun e w' => e = .returned (.bool (k.g.toList == s.toList)) ∧ W.grownBy w' none) := by
  have h2 : (W.alloc (.cells #[.string k.g, .string k.t, .int .i64 k.i] 45)).cell? ⟨b, 0, none⟩ = some (.string s) := (((Below.refl W.heap.size W).alloc (Nat.le_refl _) (.cells #[.string k.g, .string k.t, .int .i64 k.i] 45)).cell hb).trans hx
  go_enter Try.func30, Try.ntmps30
  go_wp2_with fail
  go_ret
  exact ⟨rfl, World.grownBy_alloc _ _ _⟩
def whichG (b : Nat) : Value := .func (.func 30) #[] #[.pointer (some ⟨b, 0, none⟩)]
theorem rm1_c (k : KY) (a : Int) (s : ByteArray) (b b2 : Nat) (W : World) (hx : W.cell? ⟨b, 0, none⟩ = some (.string s)) (hb : b < W.heap.size) (hy : W.cell? ⟨b2, 0, none⟩ = some (whichG b)) (hb2 : b2 < W.heap.size) :
    Calls Try.prog 48 #[.agg #[.string k.g, .string k.t, .int .i64 k.i], .int .i64 a, .pointer (some ⟨b2, 0, none⟩)] W (fun e w' => e = .returned (.bool (k.g.toList == s.toList)) ∧ W.grownBy w' none) := by
  have hB := (Below.refl W.heap.size W).alloc (Nat.le_refl _) (.cells #[.string k.g, .string k.t, .int .i64 k.i] 45)
  have h2 := (hB.cell hb).trans hx
  have h3 := (hB.cell hb2).trans hy
  have hz := hB.size
  have cf := fg1_c k s b _ h2 (by omega)
  have HG := Lib.hid (World.grownBy_alloc W (.cells #[.string k.g, .string k.t, .int .i64 k.i] 45) none)
  have hbx := Box.new W 45 #[.string k.g, .string k.t, .int .i64 k.i]
  have b0 := (hbx.cell 0).trans (show _ = some (Value.string k.g) from rfl)
  have b1 := (hbx.cell 1).trans (show _ = some (Value.string k.t) from rfl)
  have b2' := (hbx.cell 2).trans (show _ = some (Value.int .i64 k.i) from rfl)
  obtain ⟨r, hr⟩ : ∃ r, (k.g.toList == s.toList) = r := ⟨_, rfl⟩
  rw [hr] at cf ⊢
  unfold whichG at h3
  clear hB hx hy hbx hr hz
  go_enter Try.func48, Try.ntmps48
  go_wp2_with fail
  with_reducible refine cf.mono ?_
  rintro en w1 ⟨rfl, hg⟩
  have HG1 := Lib.hid (HG.out.andThen hg (fun j hj => by cases hj))
  clear hg
  go_wp2_with fail
  go_ret
  exact ⟨rfl, HG1.out⟩
def outG (F : List KE) (s : ByteArray) : List KE := F.filter fun e => !(decide (e.1.g = s))
theorem mapK_outG {F : List KE} (hF : ∀ e ∈ F, KyOk e.1) (s : ByteArray) : Lib.deleteFuncD (pdG s) (mapK F) = mapK (outG F s) := by
  unfold Lib.deleteFuncD mapK outG
  simp only
  congr 1
  rw [List.filter_map]
  congr 1
  refine List.filter_congr fun e he => ?_
  show (!pdG s (.string (kyB e.1)) (itD e)) = _
  rw [pdG_of (kyKey e.1 (hF e he))]
theorem str_eq (a b : ByteArray) : (a.toList == b.toList) = decide (a = b) := by
  rw [ByteArray.toList_eq, ByteArray.toList_eq]
  by_cases h : a = b
  · subst h; simp
  · rw [decide_eq_false h]
    simp only [beq_eq_false_iff_ne, ne_eq]
    intro e
    apply h
    apply ByteArray.ext
    exact Array.toList_inj.1 e
def GotRm (W : World) (p g : Nat) (room : Int) (F G : List KE) (en : Ending) (w' : World) : Prop := en = .returned (.int .i64 ((F.length : Int) - (G.length : Int))) ∧ OfIs w' p g room G ∧ Off (fun i => i = g) W w'
theorem outG_len (F : List KE) (s : ByteArray) : (outG F s).length ≤ F.length := List.length_filter_le _ _
set_option maxHeartbeats 4000000 in
set_option maxRecDepth 100000 in
theorem remove_c (p g : Nat) (room : Int) (F : List KE) (s : ByteArray) (b : Nat) (W : World) (h : OfIs W p g room F) (hl : F.length ≤ 1000000) (hF : ∀ e ∈ F, KyOk e.1) (hx : W.cell? ⟨b, 0, none⟩ = some (.string s)) (hb : b < W.heap.size) (hbg : b ≠ g) :
    Calls Try.prog 29 #[.pointer (some ⟨p, 0, none⟩), whichG b] W (GotRm W p g room F (outG F s)) := by
  have hB := (Below.refl W.heap.size W).alloc (Nat.le_refl _) (.cells #[whichG b] 68)
  have h1 := h.later hB
  obtain ⟨c0, c1, cl⟩ := h1.cells
  have hln := fun ty => len_run h1 ty
  have hx1 := (hB.cell hb).trans hx
  have hy1 : (W.alloc (.cells #[whichG b] 68)).cell? ⟨W.heap.size, 0, none⟩ = some (whichG b) := ((Box.new W 68 #[whichG b]).cell 0).trans rfl
  have hgl := h.map.lt
  have hz := hB.size
  have hzz : (W.alloc (.cells #[whichG b] 68)).heap.size = W.heap.size + 1 := by simp
  have eg : ∀ args w, (callFunc 48 args).run Try.prog w = .ok (.enter 48 args) w := enters_of Try.func48 (by kernel_rfl) rfl
  have hcon := dfun_c (pdG s) 48 #[.pointer (some ⟨W.heap.size, 0, none⟩)] g F.length (mapK F) _ eg h1.map (fun V k a kl hg hk => by
    have := rm1_c k a s b W.heap.size V (hg.cell hx1 (fun e => hbg (Option.some.inj e))) (Nat.lt_of_lt_of_le (by omega) hg.size) (hg.cell hy1 (fun e => by have := Option.some.inj e; simp at this; omega)) (Nat.lt_of_lt_of_le (by omega) hg.size)
    rw [str_eq] at this
    rw [pdG_of hk]
    exact this)
  rw [mapK_outG hF] at hcon
  have H1 := Lib.hid h1
  have HO := Lib.hid (Off.of_below (fun i => i = g) hB)
  have hgl2 := outG_len F s
  clear hB h h1 hx hx1 hy1 hz hzz hF hb hbg hgl
  unfold whichG at *
  go_enter Try.func29, Try.ntmps29
  go_wp2_with fail
  with_reducible refine hcon.mono ?_
  rintro en w1 ⟨rfl, hm, hg⟩
  have hn1 := box_ne_map H1.out.box H1.out.map
  have HR : Hid (OfIs w1 p g room (outG F s)) := Lib.hid ⟨(hg.block p H1.out.box.lt (fun e => hn1 (Option.some.inj e))).trans H1.out.box, map_tight hm, H1.out.rise.sublist List.filter_sublist⟩
  have HO2 := Lib.hid (HO.out.grown hg (fun i hi _ => by injection hi with hi; exact hi.symm))
  obtain ⟨d0, d1, dl⟩ := HR.out.cells
  have hln2 := fun ty => len_run HR.out ty
  clear hm hg hcon hln c0 c1
  go_wp2_with fail
  go_ret
  refine ⟨?_, HR.out, HO2.out⟩
  first
    | rfl
    | (congr 1; go_num)
end Go.Proofs.Ytlkhfgkgngcakaa
