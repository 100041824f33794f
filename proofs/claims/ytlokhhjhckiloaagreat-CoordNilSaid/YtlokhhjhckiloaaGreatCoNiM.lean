/- coord: a coordinator that is none. No condition. -/
import Derived.Test.YtlokhhjhckiloaaGreatCoLv
import Derived.BigQuiet
import Derived.RangeFuncNested
import Derived.RangeFuncBound
import Derived.RangeFuncCalls
import Derived.RangeFuncLeaves
import Derived.RangeFuncBox
import Derived.OwnWalkIn
import Derived.TacticsInMore
import Derived.LoopIn
import Derived.Test.YtlokhhjhckiloaaGreatAsOp
import Derived.Test.YtlokhhjhckiloaaGreatMbGi
namespace Go.Proofs.YtlokhhjhckiloaaGreat
open Go.RowKit Go.Maps Go.ChangeMaps Go.WideMaps
set_option linter.unusedVariables false
set_option maxRecDepth 100000 in
theorem n_join (s : ByteArray) (m now : Int) (n : Nat) (A : Option Addr) (c : Nat) (W : World) : Calls Tryz.prog 12 #[.pointer none, .string s, .int .i64 m, .slice A n c, .int .i64 now] W (Good W (.tuple #[.agg #[.int .i64 0, .int .i64 0, .int .i64 0], .int .i64 1])) := by
  have HB := Lib.hid (Box.new W 41 #[.int .i64 0, .int .i64 0, .int .i64 0])
  have HA : Hid (Below W.heap.size W (W.alloc (.cells #[.int .i64 0, .int .i64 0, .int .i64 0] 41))) := Lib.hid ((Below.refl _ _).alloc (Nat.le_refl _) _)
  go_enter Tryz.func12, Tryz.ntmps12
  go_wp2_with fail
  exact bodyPost_ret (join_result W.heap.size HB.out _ rfl rfl) rfl ⟨rfl, HA.out⟩
theorem n_sync (s : ByteArray) (m gen now : Int) (A : Option Addr) (n c : Nat) (r : Bool) (W : World) : Calls Tryz.prog 13 #[.pointer none, .string s, .int .i64 m, .int .i64 gen, .slice A n c, .bool r, .int .i64 now] W (fun e w' => e = .returned (.tuple #[.slice none 0 0, .int .i64 1]) ∧ w' = W) := by
  have cf := fun w => cfind_nil s w
  go_enter Tryz.func13, Tryz.ntmps13
  go_wp2_with fail
  with_reducible refine (cf _).mono ?_
  rintro en w2 ⟨rfl, rfl⟩
  go_wp2_with fail
  go_ret2
  exact ⟨rfl, rfl⟩
theorem n_beat (s : ByteArray) (m gen now : Int) (W : World) : Calls Tryz.prog 16 #[.pointer none, .string s, .int .i64 m, .int .i64 gen, .int .i64 now] W (fun e w' => e = .returned (.int .i64 1) ∧ w' = W) := by
  have cf := fun w => cfind_nil s w
  go_enter Tryz.func16, Tryz.ntmps16
  go_wp2_with fail
  with_reducible refine (cf _).mono ?_
  rintro en w2 ⟨rfl, rfl⟩
  go_wp2_with fail
  go_ret
  exact ⟨rfl, rfl⟩
theorem n_commit (s t : ByteArray) (i a : Int) (W : World) : Calls Tryz.prog 19 #[.pointer none, .string s, .agg #[.string t, .int .i64 i], .int .i64 a] W (Good W (.int .i64 1)) := by
  have HA : Hid (Below W.heap.size W (W.alloc (.cells #[.string t, .int .i64 i] 34))) := Lib.hid ((Below.refl _ _).alloc (Nat.le_refl _) _)
  go_enter Tryz.func19, Tryz.ntmps19
  go_wp2_with fail
  go_ret
  exact ⟨rfl, HA.out⟩
theorem n_committed (s t : ByteArray) (i : Int) (W : World) : Calls Tryz.prog 14 #[.pointer none, .string s, .agg #[.string t, .int .i64 i]] W (Good W (.tuple #[.int .i64 0, .bool false])) := by
  have HA : Hid (Below W.heap.size W (W.alloc (.cells #[.string t, .int .i64 i] 34))) := Lib.hid ((Below.refl _ _).alloc (Nat.le_refl _) _)
  go_enter Tryz.func14, Tryz.ntmps14
  go_wp2_with fail
  go_ret2
  exact ⟨rfl, HA.out⟩
theorem n_drop (s : ByteArray) (W : World) : Calls Tryz.prog 20 #[.pointer none, .string s] W (fun e w' => e = .returned (.int .i64 0) ∧ w' = W) := by
  go_enter Tryz.func20, Tryz.ntmps20
  go_wp2_with fail
  go_ret
  exact ⟨rfl, rfl⟩
set_option maxRecDepth 100000 in
theorem n_group (s : ByteArray) (W : World) : Calls Tryz.prog 22 #[.pointer none, .string s] W (Good W (.agg #[.int .i64 0, .int .i64 0, .int .i64 0, .int .i64 0, .slice none 0 0])) := by
  have HB := Lib.hid (Box.new W 57 #[.int .i64 0, .int .i64 0, .int .i64 0, .int .i64 0, .slice none 0 0])
  have HA : Hid (Below W.heap.size W (W.alloc (.cells #[.int .i64 0, .int .i64 0, .int .i64 0, .int .i64 0, .slice none 0 0] 57))) := Lib.hid ((Below.refl _ _).alloc (Nat.le_refl _) _)
  go_enter Tryz.func22, Tryz.ntmps22
  go_wp2_with fail
  exact bodyPost_ret (group_result W.heap.size HB.out _ rfl) rfl ⟨rfl, HA.out⟩
set_option maxRecDepth 100000 in
theorem n_all (W : World) : Calls Tryz.prog 46 #[.pointer none] W (fun e w' => e = .returned (.func (Fn.func 76) #[] #[.pointer (some ⟨W.heap.size, 0, none⟩)]) ∧ w' = W.alloc (.cells #[.pointer none] 23)) := by
  go_enter Tryz.func46, Tryz.ntmps46
  go_wp2_with fail
  go_ret
  exact ⟨rfl, rfl⟩
set_option maxRecDepth 100000 in
theorem n_iter (y : Value) (b : Nat) (W : World) (h : W.cell? ⟨b, 0, none⟩ = some (.pointer none)) : Calls Tryz.prog 76 #[y, .pointer (some ⟨b, 0, none⟩)] W (fun e w' => (∃ v, e = .returned v) ∧ w' = W) := by
  go_enter Tryz.func76, Tryz.ntmps76
  go_wp2_with fail
  refine bodyPost_ret (v := .tuple #[]) (by simp [results, Tryz.results76, go_sem]) rfl ⟨⟨_, rfl⟩, rfl⟩
theorem n_put {B : Nat} (W : World) (D : Nat) (hD : B ≤ D) (hK : W.heap[D]? = some (.deferred (some []))) : Below B W (W.putObj D (Obj.deferred none)) := ⟨rfl, rfl, rfl, by simp [World.putObj], fun k hk => World.putObj_heap_other (by omega)⟩
def KpN (B b : Nat) (W W' : World) : Prop := Below B W W' ∧ W'.heap[b]? = W.heap[b]?
theorem n_stops (b : Nat) (W0 : World) (hb : W0.cell? ⟨b, 0, none⟩ = some (.pointer none)) (hl : b < W0.heap.size) (B : Nat) : SeqStopsK Fence.wide 8 Tryz.prog 76 #[.pointer (some ⟨b, 0, none⟩)] (fun _ : Unit => #[.int .i64 0, .int .i64 0]) (KpN B b) (fun xs => xs = []) (fun _ => False) 0 W0 := by
  intro l J Jx W hB hJ hJx hY h0
  refine (callsIn_wide.2 (n_iter _ b W ((hB.cell (p := ⟨b, 0, none⟩) hl).trans hb))).mono ?_
  rintro e w' ⟨hv, rfl⟩
  exact ⟨hv, .inl ⟨[], rfl, h0⟩⟩
set_option maxHeartbeats 4000000 in
set_option maxRecDepth 100000 in
theorem n_tick_in (now : Int) (w : World) : CallsIn Fence.wide 9 Tryz.prog 15 #[.pointer none, .int .i64 now] w fun e W' => e = .returned (.tuple #[]) ∧ Below w.heap.size w W' := by
  refine callsIn_of_wp_marks Tryz.func15 rfl trivial ?_ rfl
  simp only [Tryz.ntmps15, List.size_toArray, List.length_cons, List.length_nil, Nat.reduceAdd, Nat.reduceSub, Array.replicate_succ, Array.replicate_zero, List.push_toArray, List.append_toArray, List.nil_append, List.cons_append]
  gi_wp2_with fail
  refine ⟨trivial, (callsIn_wide.2 (n_all _)).mono ?_⟩
  rintro e w' ⟨rfl, rfl⟩
  gi_wp2_with fail
  obtain ⟨W0, hW0⟩ : ∃ W0, (w.alloc (.cells #[.int .i64 now] 3)).alloc (.cells #[.pointer none] 23) = W0 := ⟨_, rfl⟩
  have hs0 : W0.heap.size = w.heap.size + 2 := by rw [← hW0]; simp
  have hB1 : W0.cell? ⟨w.heap.size + 1, 0, none⟩ = some (.pointer none) := by
    have := (Box.new (w.alloc (.cells #[.int .i64 now] 3)) 23 #[.pointer none]).cell 0
    rw [World.size_alloc, hW0] at this
    exact this
  have hBW : Below w.heap.size w W0 := by rw [← hW0]; exact ((Below.refl _ w).alloc (Nat.le_refl _) _).alloc (by simp) _
  try rw [hW0]
  clear hW0
  refine wpIn_rangeFunc_ownF rfl (by omega) (gf := 76) (lb := #[.pointer (some ⟨w.heap.size + 1, 0, none⟩)]) rfl trivial (enters_of Tryz.func76 (by kernel_rfl) rfl)
    (n_stops (w.heap.size + 1) W0 hB1 (by omega) w.heap.size) (fun h k => ⟨h.1.trans k.1, k.2.trans h.2⟩) (fun W l o o' h1 h2 h3 h4 => ⟨⟨rfl, rfl, rfl, by simp [World.putObj], fun k hk => World.putObj_heap_other (by omega)⟩, World.putObj_heap_other (by omega)⟩) (Below.refl _ _) (fun _ => rfl)
    (fun _ W => Below w.heap.size w W) (fun _ _ _ => False) ?own (fun _ _ _ _ _ hs _ _ => hs) hBW
    (fun x : Unit => { tmps := #[.pointer none, .int .i64 now, undef, .pointer (some ⟨w.heap.size, 0, none⟩), undef, .int .i64 0, .pointer none, .func (.func 76) #[] #[.pointer (some ⟨w.heap.size + 1, 0, none⟩)], .int .i64 0, .int .i64 0, undef, undef, undef], defers := [] }) ?assign ?body ?done ?stop
  case own =>
    exact ownFrom_below (Nat.le_refl _) (by omega)
  case assign =>
    intro l x W K hK
    gi_wp2
    first
      | exact hK
      | (rw [Oper.semAt_some _ _ _ (by intro c hc; cases hc)]; go_simp; rename_i hq; refine hq _ _ ?_; gi_wp2; exact hK)
  case body =>
    rintro l pre x W _ hlen
    exact absurd hlen (Nat.not_lt_zero _)
  case done =>
    rintro D ys W hD hS hB hK
    gi_wp2
    refine ⟨by simp, .inl ⟨_, _, rfl, run_takeDeferred hK, ?_⟩⟩
    refine ⟨_, results_none rfl _ _ _, rfl, ?_⟩
    exact hB.trans (n_put W D (by have := hBW.size; omega) hK)
  case stop =>
    rintro D c pre W _ _ h _
    exact h.elim
theorem n_tick (now : Int) (W : World) : Calls Tryz.prog 15 #[.pointer none, .int .i64 now] W (Good W (.tuple #[])) := callsIn_wide.1 (n_tick_in now W)
theorem tab_lt' {w : World} {a : Addr} {v : Value} (h : w.cell? a = some v) : a.block < w.heap.size := by
  rcases Nat.lt_or_ge a.block w.heap.size with hlt | hge
  · exact hlt
  · simp [World.cell?, Array.getElem?_eq_none hge] at h
theorem n_own (w W0 : World) (h : w.heap.size < W0.heap.size) : OwnFrom W0.heap.size (fun (_ : List Unit) W => Below w.heap.size w W ∧ W.cell? ⟨w.heap.size, 0, none⟩ = some (.slice none 0 0)) := by
  intro xs W W' row hs hg hr
  refine ⟨ownFrom_below (Nat.le_refl _) (by omega) xs W W' row hs.1 hg hr, ?_⟩
  have hlt : w.heap.size < W.heap.size := tab_lt' hs.2
  have := hg.block w.heap.size hlt (fun e => by have := (hr _ e.symm).1; omega)
  exact (World.cell?_of_block (a := ⟨w.heap.size, 0, none⟩) this).trans hs.2
set_option maxHeartbeats 4000000 in
set_option maxRecDepth 100000 in
theorem n_names_in (w : World) : CallsIn Fence.wide 9 Tryz.prog 21 #[.pointer none] w fun e W' => e = .returned (.slice none 0 0) ∧ Below w.heap.size w W' := by
  refine callsIn_of_wp_marks Tryz.func21 rfl trivial ?_ rfl
  simp only [Tryz.ntmps21, List.size_toArray, List.length_cons, List.length_nil, Nat.reduceAdd, Nat.reduceSub, Array.replicate_succ, Array.replicate_zero, List.push_toArray, List.append_toArray, List.nil_append, List.cons_append]
  gi_wp2_with fail
  refine ⟨trivial, (callsIn_wide.2 (n_all _)).mono ?_⟩
  rintro e w' ⟨rfl, rfl⟩
  gi_wp2_with fail
  obtain ⟨W0, hW0⟩ : ∃ W0, (w.alloc (.cells #[.slice none 0 0] 31)).alloc (.cells #[.pointer none] 23) = W0 := ⟨_, rfl⟩
  have hs0 : W0.heap.size = w.heap.size + 2 := by rw [← hW0]; simp
  have hB1 : W0.cell? ⟨w.heap.size + 1, 0, none⟩ = some (.pointer none) := by
    have := (Box.new (w.alloc (.cells #[.slice none 0 0] 31)) 23 #[.pointer none]).cell 0
    rw [World.size_alloc, hW0] at this
    exact this
  have hB2 : W0.cell? ⟨w.heap.size, 0, none⟩ = some (.slice none 0 0) := by
    have h1 := ((Box.new w 31 #[.slice none 0 0]).alloc (.cells #[.pointer none] 23)).cell 0
    rw [hW0] at h1
    exact h1
  have hBW : Below w.heap.size w W0 := by rw [← hW0]; exact ((Below.refl _ w).alloc (Nat.le_refl _) _).alloc (by simp) _
  try rw [hW0]
  clear hW0
  refine wpIn_rangeFunc_ownF rfl (by omega) (gf := 76) (lb := #[.pointer (some ⟨w.heap.size + 1, 0, none⟩)]) rfl trivial (enters_of Tryz.func76 (by kernel_rfl) rfl)
    (n_stops (w.heap.size + 1) W0 hB1 (by omega) w.heap.size) (fun h k => ⟨h.1.trans k.1, k.2.trans h.2⟩) (fun W l o o' h1 h2 h3 h4 => ⟨⟨rfl, rfl, rfl, by simp [World.putObj], fun k hk => World.putObj_heap_other (by omega)⟩, World.putObj_heap_other (by omega)⟩) (Below.refl _ _) (fun _ => rfl)
    (fun _ W => Below w.heap.size w W ∧ W.cell? ⟨w.heap.size, 0, none⟩ = some (.slice none 0 0)) (fun _ _ _ => False) ?own (fun _ _ _ _ _ hs _ _ => hs) ⟨hBW, hB2⟩
    (fun x : Unit => { tmps := #[.pointer none, undef, .slice none 0 0, .pointer (some ⟨w.heap.size, 0, none⟩), .int .i64 0, .pointer none, .func (.func 76) #[] #[.pointer (some ⟨w.heap.size + 1, 0, none⟩)], .int .i64 0, .int .i64 0, undef, undef, undef, undef, undef, undef], defers := [] }) ?assign ?body ?done ?stop
  case own =>
    exact n_own w W0 (by omega)
  case assign =>
    intro l x W K hK
    gi_wp2
    first
      | exact hK
      | (rw [Oper.semAt_some _ _ _ (by intro c hc; cases hc)]; go_simp; rename_i hq; refine hq _ _ ?_; gi_wp2; exact hK)
  case body =>
    rintro l pre x W _ hlen
    exact absurd hlen (Nat.not_lt_zero _)
  case done =>
    rintro D ys W hD hS ⟨hB, hc⟩ hK
    gi_wp2
    refine ⟨by simp, .inl ⟨_, _, rfl, run_takeDeferred hK, ?_⟩⟩
    refine ⟨_, results_tmp rfl _ _ _, rfl, ?_⟩
    exact hB.trans (n_put W D (by have := hBW.size; omega) hK)
  case stop =>
    rintro D c pre W _ _ h _
    exact h.elim
theorem n_names (W : World) : Calls Tryz.prog 21 #[.pointer none] W (Good W (.slice none 0 0)) := callsIn_wide.1 (n_names_in W)
end Go.Proofs.YtlokhhjhckiloaaGreat
/- coord: an argument that is a call, or a list of calls. No condition. -/
namespace Go.Proofs.YtlokhhjhckiloaaGreat
open Go.RowKit Go.WideShapes Go.ChangeShapes Go.Deep
set_option linter.unusedVariables false
section
variable {H : Type} {enc : TypeId × Value → H} {w : World} {base : Nat} {sp : Nat → Bool} {held : Bool}
set_option maxRecDepth 100000 in
theorem open_strsz {n : Nat} {x : Value} {y : DataW H × List MemPlace} (h : DataW.trod enc Tryz.prog w base sp held n 31 [x] = some y) (hw : Weighs Tryz.prog 31 y.1) :
    ∃ A c, ∃ L : List ByteArray, x = .slice A L.length c ∧ StrIn w A L ∧ L.length ≤ 140737488351232 ∧ ∀ s ∈ L, s.size ≤ 281474976710656 := by
  rcases open_slice Tryz.underlying31 h with ⟨hcs, _⟩ | ⟨a, len, cap, m, n', D, Pl, hcs, _, hlc, _, hm, hx, hi⟩
  · have : x = .slice none 0 0 := by simpa using hcs
    exact ⟨none, 0, [], this, fun hp => by simp at hp, by simp, by simp⟩
  · have hxv : x = .slice (some a) len cap := by simpa using hcs
    have hlm : len ≤ m := by rw [hm]; split <;> omega
    have hD : y.1 = .slice ((List.range len).map D) ((List.range (m - len)).map fun j => D (len + j)) := by rw [hx]
    rw [hD] at hw
    have hlen := weighs_len Tryz.underlying31 hw
    rw [reach_47] at hlen
    simp only [List.length_map, List.length_range] at hlen
    have hl2 : len * 16 ≤ 140737488351232 := by
      refine Nat.le_trans ?_ hlen
      exact Nat.mul_le_mul (by omega) (by decide +kernel)
    have key : ∀ i, i < len → ∃ o : ByteArray, w.cell? (a.add i) = some (.string o) ∧ o.size ≤ 281474976710656 := by
      intro i hil
      obtain ⟨cs', hc, ht'⟩ := hi i (by omega)
      rw [show Tryz.prog.cellsOf 9 = 1 by kernel_rfl] at hc
      obtain ⟨_, hcl2, hat⟩ := World.cells?_some hc
      obtain ⟨u, rfl⟩ : ∃ u, cs' = [u] := by
        match cs', hcl2 with
        | [u], _ => exact ⟨u, rfl⟩
      obtain ⟨o, e0, z0, _⟩ := DataW.trod_string Tryz.underlying9 ht'
      have hwe : Weighs Tryz.prog 9 (D i) := weighs_elem Tryz.underlying31 hw (i := i) (by simp [hil])
      have z1 : D i = _ := congrArg Prod.fst z0
      rw [z1] at hwe
      have s0 := weighs_str hwe
      refine ⟨o, ?_, by omega⟩
      have h0 := hat 0 (by omega)
      rw [Nat.mul_one, Go.Deep.add_add, Nat.add_zero] at h0
      rw [h0]
      simpa using e0
    have hex : ∃ F : Nat → ByteArray, ∀ i, i < len → w.cell? (a.add i) = some (.string (F i)) ∧ (F i).size ≤ 281474976710656 := by
      classical
      refine ⟨fun i => if h : i < len then Classical.choose (key i h) else ⟨#[]⟩, fun i hil => ?_⟩
      simp only [dif_pos hil]
      exact Classical.choose_spec (key i hil)
    obtain ⟨F, hF⟩ := hex
    refine ⟨some a, cap, (List.range len).map F, by simp [hxv], fun hp => ?_, by simp; omega, fun z hz => ?_⟩
    · have hp' : 0 < len := by simpa using hp
      obtain ⟨b, off, rfl, hb⟩ := addr_plain (w := w) (a := a) (v := .string (F 0)) (hF 0 hp').1
      refine ⟨b, off, rfl, hb, fun j o hj => ?_⟩
      obtain ⟨hj1, hj2⟩ := List.getElem?_eq_some_iff.1 hj
      have hj' : j < len := by simpa using hj1
      have : F j = o := by simpa using hj2
      subst this
      have := (hF j hj').1
      rwa [add_at] at this
    · simp only [List.mem_map, List.mem_range] at hz
      obtain ⟨i, hi', rfl⟩ := hz
      exact (hF i hi').2
/-- A call: what to do, which group, whose, which topics, which generation, which partitions, how, which partition, at what, when. -/
structure OC where
  do_ : Int
  g : ByteArray
  m : Int
  T : List ByteArray
  TA : Option Addr
  tc : Nat
  gen : Int
  P : List TX
  PA : Option Addr
  pc : Nat
  rnd : Bool
  pt : ByteArray
  pi : Int
  at_ : Int
  now : Int
instance : Inhabited OC := ⟨⟨0, ⟨#[]⟩, 0, [], none, 0, 0, [], none, 0, false, ⟨#[]⟩, 0, 0, 0⟩⟩
def ocL (x : OC) : List Value := [.int .i64 x.do_, .string x.g, .int .i64 x.m, .slice x.TA x.T.length x.tc, .int .i64 x.gen, .slice x.PA x.P.length x.pc, .bool x.rnd, .string x.pt, .int .i64 x.pi, .int .i64 x.at_, .int .i64 x.now]
structure OCk (w : World) (x : OC) : Prop where
  str : StrIn w x.TA x.T
  tl : x.T.length ≤ 140737488351232
  tz : ∀ s ∈ x.T, s.size ≤ 281474976710656
  top : TpIn w x.PA x.P
  pl : x.P.length ≤ 140737488351232
  pz : ∀ t ∈ x.P, t.1.size ≤ 281474976710656
  g : x.g.size ≤ 140737488351232
  pt : x.pt.size ≤ 140737488351232
  pi : (Lit.int .i64 x.pi).wf = true
theorem OCk.later {w w' : World} {x : OC} (h : OCk w x) (hb : Below w.heap.size w w') : OCk w' x := ⟨h.str.below hb, h.tl, h.tz, h.top.below hb, h.pl, h.pz, h.g, h.pt, h.pi⟩
set_option maxRecDepth 100000 in
theorem oc_of {n : Nat} {cs' : List Value} {d : DataW H} {p : List MemPlace} (hl : cs'.length = 11) (ht' : DataW.trod enc Tryz.prog w base sp held n 36 cs' = some (d, p)) (hwe : Weighs Tryz.prog 36 d) :
    ∃ x : OC, cs' = ocL x ∧ OCk w x := by
  obtain ⟨xs, n2, _, hy, _, hyl, hff⟩ := DataW.trod_struct Tryz.underlying36 ht'
  simp only [Prod.mk.injEq] at hy
  rw [hy.1] at hwe
  obtain ⟨y0, u0⟩ : ∃ y, xs[0]? = some y := ⟨_, List.getElem?_eq_getElem (by rw [hyl]; decide)⟩
  obtain ⟨y1, u1⟩ : ∃ y, xs[1]? = some y := ⟨_, List.getElem?_eq_getElem (by rw [hyl]; decide)⟩
  obtain ⟨y2, u2⟩ : ∃ y, xs[2]? = some y := ⟨_, List.getElem?_eq_getElem (by rw [hyl]; decide)⟩
  obtain ⟨y3, u3⟩ : ∃ y, xs[3]? = some y := ⟨_, List.getElem?_eq_getElem (by rw [hyl]; decide)⟩
  obtain ⟨y4, u4⟩ : ∃ y, xs[4]? = some y := ⟨_, List.getElem?_eq_getElem (by rw [hyl]; decide)⟩
  obtain ⟨y5, u5⟩ : ∃ y, xs[5]? = some y := ⟨_, List.getElem?_eq_getElem (by rw [hyl]; decide)⟩
  obtain ⟨y6, u6⟩ : ∃ y, xs[6]? = some y := ⟨_, List.getElem?_eq_getElem (by rw [hyl]; decide)⟩
  obtain ⟨y7, u7⟩ : ∃ y, xs[7]? = some y := ⟨_, List.getElem?_eq_getElem (by rw [hyl]; decide)⟩
  obtain ⟨y8, u8⟩ : ∃ y, xs[8]? = some y := ⟨_, List.getElem?_eq_getElem (by rw [hyl]; decide)⟩
  obtain ⟨y9, u9⟩ : ∃ y, xs[9]? = some y := ⟨_, List.getElem?_eq_getElem (by rw [hyl]; decide)⟩
  have t0 := (hff 0 _ rfl).trans u0
  have t1 := (hff 1 _ rfl).trans u1
  have t2 := (hff 2 _ rfl).trans u2
  have t3 := (hff 3 _ rfl).trans u3
  have t4 := (hff 4 _ rfl).trans u4
  have t5 := (hff 5 _ rfl).trans u5
  have t6 := (hff 6 _ rfl).trans u6
  have t7 := (hff 7 _ rfl).trans u7
  have t8 := (hff 8 _ rfl).trans u8
  have t9 := (hff 9 _ rfl).trans u9
  have w1 := weighs_field Tryz.underlying36 hwe (j := 1) rfl (d := y1.1) (by simp [u1])
  have w3 := weighs_field Tryz.underlying36 hwe (j := 3) rfl (d := y3.1) (by simp [u3])
  have w5 := weighs_field Tryz.underlying36 hwe (j := 5) rfl (d := y5.1) (by simp [u5])
  have w7 := weighs_field Tryz.underlying36 hwe (j := 7) rfl (d := y7.1) (by simp [u7])
  match cs', hl, t0, t1, t2, t3, t4, t5, t6, t7, t8, t9 with
  | [c0, c1, c2, c3, c4, c5, c6, c7, c8, c9, c10], _, t0, t1, t2, t3, t4, t5, t6, t7, t8, t9 =>
    obtain ⟨n0, e0, _, f0⟩ := DataW.trod_int (t := 3) Tryz.underlying3 (show DataW.trod enc Tryz.prog w base sp held n2 3 [c0] = some y0 from t0)
    obtain ⟨g, e1, e1', _⟩ := DataW.trod_string (t := 9) Tryz.underlying9 (show DataW.trod enc Tryz.prog w base sp held n2 9 [c1] = some y1 from t1)
    obtain ⟨n2v, e2, _, f2⟩ := DataW.trod_int (t := 3) Tryz.underlying3 (show DataW.trod enc Tryz.prog w base sp held n2 3 [c2] = some y2 from t2)
    obtain ⟨TA, tc, T, e3, hT, hTl, hTz⟩ := open_strsz (y := y3) (show DataW.trod enc Tryz.prog w base sp held n2 31 [c3] = some y3 from t3) w3
    obtain ⟨n4, e4, _, f4⟩ := DataW.trod_int (t := 3) Tryz.underlying3 (show DataW.trod enc Tryz.prog w base sp held n2 3 [c4] = some y4 from t4)
    obtain ⟨PA, pc, P, e5, hP, hPl, hPz⟩ := open_tops0 (y := y5) (show DataW.trod enc Tryz.prog w base sp held n2 32 [c5] = some y5 from t5) w5
    obtain ⟨b6, e6, _⟩ := DataW.trod_bool (t := 4) Tryz.underlying4 (show DataW.trod enc Tryz.prog w base sp held n2 4 [c6] = some y6 from t6)
    obtain ⟨n3, get⟩ := open_cells (cs' := [c7, c8]) Tryz.underlying34 (by kernel_rfl) rfl (show DataW.trod enc Tryz.prog w base sp held n2 34 [c7, c8] = some y7 from t7) w7
    obtain ⟨a0, z0, q0, s0, v0⟩ := get 0 _ rfl
    obtain ⟨a1, z1, q1, s1, _⟩ := get 1 _ rfl
    obtain ⟨t, e7, e7', _⟩ := DataW.trod_string Tryz.underlying9 s0
    obtain ⟨i, e8, _, wf8⟩ := DataW.trod_int Tryz.underlying3 s1
    obtain ⟨n8, e9, _, f9⟩ := DataW.trod_int (t := 3) Tryz.underlying3 (show DataW.trod enc Tryz.prog w base sp held n2 3 [c9] = some y8 from t8)
    obtain ⟨n9, e10, _, f10⟩ := DataW.trod_int (t := 3) Tryz.underlying3 (show DataW.trod enc Tryz.prog w base sp held n2 3 [c10] = some y9 from t9)
    rw [e1'] at w1
    rw [e7'] at v0
    have sg := weighs_str w1
    have st := weighs_str v0
    subst e3
    subst e5
    simp at e0 e1 e2 e4 e6 e7 e8 e9 e10 q0 q1
    refine ⟨⟨n0, g, n2v, T, TA, tc, n4, P, PA, pc, b6, t, i, n8, n9⟩, ?_, ⟨hT, hTl, hTz, hP, hPl, hPz, sg, st, wf8⟩⟩
    unfold ocL
    rw [e0, e1, e2, e4, e6, q0, e7, q1, e8, e9, e10]
theorem ocL_len (x : OC) : (ocL x).length = 11 := rfl
set_option maxRecDepth 100000 in
theorem open_op {r : Reach} {b0 : Nat} {v : Value} {d : DataW H} {p : List MemPlace} (hv : Value.okWide Tryz.prog w r b0 36 v) (h : DataW.Trod enc Tryz.prog w base sp held 36 v d p) (hw : Weighs Tryz.prog 36 d) :
    ∃ x : OC, v = .agg (ocL x).toArray ∧ OCk w x := by
  obtain ⟨cs, rfl, hsz⟩ := okWide_struct Tryz.underlying36 hv
  obtain ⟨fuel, hf⟩ := h
  have hsz' : cs.size = 11 := hsz.trans (by kernel_rfl)
  obtain ⟨x, hx, hok⟩ := oc_of (cs' := cs.toList) (by simpa using hsz') hf hw
  exact ⟨x, by rw [← hx], hok⟩
end
end Go.Proofs.YtlokhhjhckiloaaGreat
/- coord: CoordNil, walked. No condition. -/
namespace Go.Proofs.YtlokhhjhckiloaaGreat
open Go.RowKit
set_option linter.unusedVariables false
theorem oc11 {w : World} {b : Nat} {t : TypeId} {x : OC} (h : Box w b t (ocL x).toArray) : w.cell? ⟨b, 0, none⟩ = some (.int .i64 x.do_) ∧ w.cell? ⟨b, 1, none⟩ = some (.string x.g) ∧ w.cell? ⟨b, 2, none⟩ = some (.int .i64 x.m) ∧ w.cell? ⟨b, 3, none⟩ = some (.slice x.TA x.T.length x.tc) ∧ w.cell? ⟨b, 4, none⟩ = some (.int .i64 x.gen) ∧ w.cell? ⟨b, 5, none⟩ = some (.slice x.PA x.P.length x.pc) ∧ w.cell? ⟨b, 6, none⟩ = some (.bool x.rnd) ∧ w.cell? ⟨b, 7, none⟩ = some (.string x.pt) ∧ w.cell? ⟨b, 8, none⟩ = some (.int .i64 x.pi) ∧ w.cell? ⟨b, 9, none⟩ = some (.int .i64 x.at_) ∧ w.cell? ⟨b, 10, none⟩ = some (.int .i64 x.now) ∧ b < w.heap.size :=
  ⟨(h.cell 0).trans rfl, (h.cell 1).trans rfl, (h.cell 2).trans rfl, (h.cell 3).trans rfl, (h.cell 4).trans rfl, (h.cell 5).trans rfl, (h.cell 6).trans rfl, (h.cell 7).trans rfl, (h.cell 8).trans rfl, (h.cell 9).trans rfl, (h.cell 10).trans rfl, h.lt⟩
set_option maxHeartbeats 16000000 in
set_option maxRecDepth 100000 in
theorem coordNil_walk (x : OC) (W : World) (_hx : OCk W x) : Calls Tryz.prog 4 #[.agg (ocL x).toArray] W (Good W (.bool true)) := by
  clear _hx
  have hbx := Box.new W 36 (ocL x).toArray
  have hB : Below W.heap.size W (W.alloc (.cells (ocL x).toArray 36)) := (Below.refl _ _).alloc (Nat.le_refl _) _
  have d1 := fun w => cnew_no 0 0 rfl w
  have d2 := fun w => n_join x.g x.m x.now x.T.length x.TA x.tc w
  have d3 := fun w => n_sync x.g x.m x.gen x.now x.PA x.P.length x.pc x.rnd w
  have d4 := fun w => n_committed x.g x.pt x.pi w
  have d5 := fun w => n_tick x.now w
  have d6 := fun w => n_beat x.g x.m x.gen x.now w
  have d7 := fun w => leave_nil' x.g x.m x.now w
  have d8 := fun w => may_nil x.g x.m x.gen w
  have d9 := fun w => n_commit x.g x.pt x.pi x.at_ w
  have d10 := fun w => n_drop x.g w
  have d11 := fun w => n_names w
  have d12 := fun w => n_group x.g w
  have d13 := fun w => live17_c w
  have fd4 := fieldV4
  have HX := Lib.hid hbx
  have HB := Lib.hid hB
  obtain ⟨x0, x1, x2, x3, x4, x5, x6, x7, x8, x9, x10, xl⟩ := oc11 hbx
  clear hbx hB
  go_enter Tryz.func4, Tryz.ntmps4
  go_wp2_with fail
  with_reducible refine (d1 _).mono ?_
  rintro e w1 ⟨rfl, hw⟩
  subst hw
  go_wp2_with fail
  with_reducible refine (d2 _).mono ?_
  rintro e w2 ⟨rfl, hb⟩
  have hA2 : Below w2.heap.size w2 (w2.alloc (.cells #[.int .i64 0, .int .i64 0, .int .i64 0] 41)) := (Below.refl _ _).alloc (Nat.le_refl _) _
  have HX2 := Lib.hid ((HX.out.later hb).later hA2)
  have HB2 := Lib.hid ((HB.out.trans (hb.mono HB.out.size)).trans (hA2.mono (Nat.le_trans HB.out.size hb.size)))
  clear hA2
  clear x0 x1 x2 x3 x4 x5 x6 x7 x8 x9 x10 xl hb HX HB d1 d2
  obtain ⟨x0, x1, x2, x3, x4, x5, x6, x7, x8, x9, x10, xl⟩ := oc11 HX2.out
  go_wp2_with fail
  with_reducible refine (d3 _).mono ?_
  rintro e w3 ⟨rfl, hw⟩
  subst hw
  go_wp2_with fail
  with_reducible refine (d4 _).mono ?_
  rintro e w4 ⟨rfl, hb⟩
  have HX4 := Lib.hid (HX2.out.later hb)
  have HB4 := Lib.hid (HB2.out.trans (hb.mono HB2.out.size))
  clear x0 x1 x2 x3 x4 x5 x6 x7 x8 x9 x10 xl hb HX2 HB2 d3 d4
  obtain ⟨x0, x1, x2, x3, x4, x5, x6, x7, x8, x9, x10, xl⟩ := oc11 HX4.out
  go_wp2_with fail
  with_reducible refine (d5 _).mono ?_
  rintro e w5 ⟨rfl, hb⟩
  have HX5 := Lib.hid (HX4.out.later hb)
  have HB5 := Lib.hid (HB4.out.trans (hb.mono HB4.out.size))
  clear x0 x1 x2 x3 x4 x5 x6 x7 x8 x9 x10 xl hb HX4 HB4 d5
  obtain ⟨x0, x1, x2, x3, x4, x5, x6, x7, x8, x9, x10, xl⟩ := oc11 HX5.out
  go_wp2_with fail
  with_reducible refine (d6 _).mono ?_
  rintro e w6 ⟨rfl, hw⟩
  subst hw
  go_wp2_with fail
  with_reducible refine (d7 _).mono ?_
  rintro e w7 ⟨rfl, hw⟩
  subst hw
  go_wp2_with fail
  with_reducible refine (d8 _).mono ?_
  rintro e w8 ⟨rfl, hw⟩
  subst hw
  go_wp2_with fail
  with_reducible refine (d9 _).mono ?_
  rintro e w9 ⟨rfl, hb⟩
  have HX9 := Lib.hid (HX5.out.later hb)
  have HB9 := Lib.hid (HB5.out.trans (hb.mono HB5.out.size))
  clear x0 x1 x2 x3 x4 x5 x6 x7 x8 x9 x10 xl hb HX5 HB5 d6 d7 d8 d9
  obtain ⟨x0, x1, x2, x3, x4, x5, x6, x7, x8, x9, x10, xl⟩ := oc11 HX9.out
  go_wp2_with fail
  with_reducible refine (d10 _).mono ?_
  rintro e w10 ⟨rfl, hw⟩
  subst hw
  go_wp2_with fail
  with_reducible refine (d11 _).mono ?_
  rintro e w11 ⟨rfl, hb⟩
  have HX11 := Lib.hid (HX9.out.later hb)
  have HB11 := Lib.hid (HB9.out.trans (hb.mono HB9.out.size))
  clear x0 x1 x2 x3 x4 x5 x6 x7 x8 x9 x10 xl hb HX9 HB9 d10 d11
  obtain ⟨x0, x1, x2, x3, x4, x5, x6, x7, x8, x9, x10, xl⟩ := oc11 HX11.out
  go_wp2_with fail
  with_reducible refine (d12 _).mono ?_
  rintro e w12 ⟨rfl, hb⟩
  have HB12 := Lib.hid (HB11.out.trans (hb.mono HB11.out.size))
  clear x0 x1 x2 x3 x4 x5 x6 x7 x8 x9 x10 xl HX11 HB11 d12 hb
  go_wp2_with fail
  with_reducible refine (d13 _).mono ?_
  rintro e w13 ⟨rfl, hb⟩
  go_wp2_with fail
  go_ret
  exact ⟨rfl, HB12.out.trans (hb.mono HB12.out.size)⟩
end Go.Proofs.YtlokhhjhckiloaaGreat
