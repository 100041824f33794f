/- Append: what it leaves. No condition. -/
import Derived.Test.YtpdimmkacjilgaaDkApp
namespace Go.Proofs.Ytpdimmkacjilgaa
open Go.RowKit Go.Maps Go.ChangeMaps Go.WideMaps
set_option linter.unusedVariables false
/-- What a call that turns a disk leaves. -/
def Gives (W : World) (p : Nat) (d : DS) (v : Value) (Q : DS → Prop) (e : Ending) (w' : World) : Prop :=
  e = .returned v ∧ ∃ d', Rep w' p d' ∧ Q d' ∧ Off (Foot p d) W w' ∧ ∀ k, Foot p d' k → Foot p d k ∨ W.heap.size ≤ k
theorem wpList_append_str {P : Program} {ops : Array Oper} {rest : List Oper} {o : Oper} {a : Act} {Q : Exit → Act → World → Prop} (w : World) (hgd : o.guard = none) (sl x : Operand) (t u : TypeId)
    (ho : o.op = .call { callee := .builtin .append, args := #[sl, x], argTypes := #[t, u] })
    (base : Nat) (e : TypeId) (i : TypeInfo) (ht : P.underlying t = some (.slice e)) (hu : P.underlying u = some .string) (hi : P.info? e = some i) (hz : i.zero = some (.int .u8 0))
    (hsize : i.size = 1) (hby : i.bytes = 1)
    (v : Value) (n : Nat) (xs : List Value) (hs : a.eval sl = v) (hown : w.ownsRow base e 1 v n xs) (s : ByteArray) (hx : a.eval x = .string s)
    (hbytes : n + s.size ≤ 140737488355328) (hbase : base ≤ w.heap.size)
    (h : ∀ v' w', w'.ownsRow base e 1 v' (n + s.size) (xs ++ Go.Lib.strCells s) → w.grownBy w' v.ownBlock → (v'.ownBlock = v.ownBlock ∨ v'.ownBlock = some w.heap.size) → wpList P ops Q rest (a.put o.dst v') w') : wpList P ops Q (o :: rest) a w := by
  refine wpList_plain hgd fun K hK => ?_
  obtain ⟨v', w', hr, h2, h3, h4⟩ := append_lies (P := P) w base t u o.type e i ht hu hi hz hsize hby v n xs hown s hbytes hbase
  unfold Oper.wp execOp
  simp only [ho, resolve, invoke, builtin, Sem.run_bind, Sem.run_pure, Result.andThen_ok, List.map_toArray, List.map_cons, List.map_nil, hs, hx, hr]
  exact hK _ _ (h v' w' h2 h3 h4)
theorem box_row {w w' : World} {b : Nat} {t : TypeId} {cs : Array Value} {row : Option Nat} (h : Box w b t cs) (hg : w.grownBy w' row) (hne : ∀ k, row = some k → k ≠ b) : Box w' b t cs :=
  (hg.block b h.lt (fun e => hne b e.symm rfl)).trans h
/-- One file has more bytes, and the disk counts them. -/
def moreF (f : DF) (v : Value) (s : ByteArray) : DF := ⟨f.name, f.blk, v, f.bytes ++ s.data.toList, f.safe⟩
def moreD (d : DS) (f : DF) (v : Value) (s : ByteArray) : DS := { d with used := d.used + (s.size : Int), F := repl f (moreF f v s) d.F }
theorem more_rep {W w1 : World} {p : Nat} {d : DS} (h : Rep W p d) {f : DF} (hf : f ∈ d.F) {s : ByteArray} (hsz : (s.size : Int) ≤ d.room - d.used) {v' : Value} (hown : w1.ownsRow 0 5 1 v' (f.bytes.length + s.size) (byteCells f.bytes ++ Go.Lib.strCells s))
    (hgrow : W.drew.grownBy w1 f.v.ownBlock) (hlies : v'.ownBlock = f.v.ownBlock ∨ v'.ownBlock = some W.heap.size) :
    Rep ((w1.setCell ⟨f.blk, 0, none⟩ v').setCell ⟨p, 1, none⟩ (.int .i64 (d.used + (s.size : Int)))) p (moreD d f v' s) ∧ Off (fun k => k = p ∨ k = f.blk ∨ f.v.ownBlock = some k) W ((w1.setCell ⟨f.blk, 0, none⟩ v').setCell ⟨p, 1, none⟩ (.int .i64 (d.used + (s.size : Int)))) ∧
      ∀ k, Foot p (moreD d f v' s) k → Foot p d k ∨ W.heap.size ≤ k := by
  have fi := h.files f hf
  obtain ⟨a1, a2⟩ := h.apart
  have n1 := own_ne fi.row h.box (by decide)
  have n2 := own_ne fi.row fi.box (by decide)
  have g1 : Box w1 p 59 (dkC d) := box_row (w := W.drew) h.box hgrow n1
  have g2 : Box w1 f.blk 69 #[f.v, .int .i64 (f.safe : Int)] := box_row (w := W.drew) fi.box hgrow n2
  have m1 := own_ne hown g1 (by decide)
  have m2 := own_ne hown g2 (by decide)
  have hown' : ∀ k, v'.ownBlock = some k → f.v.ownBlock = some k ∨ W.heap.size ≤ k := fun k hk => by
    rcases hlies with e | e
    · exact .inl (by rw [← e]; exact hk)
    · rw [e] at hk
      injection hk with hk
      exact .inr (by omega)
  have ho : Off (fun k => k = p ∨ k = f.blk ∨ f.v.ownBlock = some k) W ((w1.setCell ⟨f.blk, 0, none⟩ v').setCell ⟨p, 1, none⟩ (.int .i64 (d.used + (s.size : Int)))) :=
    (((Off.refl _ _).drew.grown hgrow (fun k e _ => .inr (.inr e))).set (.inl (.inr (.inl rfl))) _).set (.inl (.inl rfl)) _
  have hl : (f.bytes ++ s.data.toList).length = f.bytes.length + s.size := by rw [List.length_append]; rfl
  have ht := total_repl (f' := moreF f v' s) h.blks hf
  have hl2 : (moreF f v' s).bytes.length = f.bytes.length + s.size := hl
  rw [hl2] at ht
  have hu := h.used
  refine ⟨h.turn hf (f' := moreF f v' s) rfl rfl rfl rfl ?_ ho ⟨?_, ?_, ?_, fi.name⟩ hown' h.room ⟨?_, ?_⟩ h.left, ho, ?_⟩
  · have := (g1.far (p := ⟨f.blk, 0, none⟩) (fun e => (a2 f hf).1 e.symm) v').set 1 (.int .i64 (d.used + (s.size : Int)))
    exact this
  · have := (g2.set 0 v').far (p := ⟨p, 1, none⟩) (a2 f hf).1 (.int .i64 (d.used + (s.size : Int)))
    exact this
  · have q1 := own_off hown (Off.one w1 ⟨f.blk, 0, none⟩ v') m2
    have q2 := own_off q1 (Off.one _ ⟨p, 1, none⟩ (.int .i64 (d.used + (s.size : Int)))) m1
    have e1 : byteCells (f.bytes ++ s.data.toList) = byteCells f.bytes ++ Go.Lib.strCells s := by unfold byteCells Go.Lib.strCells; rw [List.map_append]
    show World.ownsRow _ 0 5 1 v' (f.bytes ++ s.data.toList).length (byteCells (f.bytes ++ s.data.toList))
    rw [e1, hl]
    exact q2
  · have := fi.safe
    show f.safe ≤ (f.bytes ++ s.data.toList).length
    omega
  · show (total (repl f (moreF f v' s) d.F) : Int) ≤ d.used + (s.size : Int)
    omega
  · show d.used + (s.size : Int) ≤ d.room
    omega
  · intro k hk
    rcases hk with hk | hk | ⟨g, hg, hk⟩
    · exact .inl (.inl hk)
    · exact .inl (.inr (.inl hk))
    · have hg' : g ∈ repl f (moreF f v' s) d.F := hg
      unfold repl at hg'
      obtain ⟨g0, hg0, rfl⟩ := List.mem_map.1 hg'
      split at hk
      · rcases hk with hk | hk
        · exact .inl (.inr (.inr ⟨f, hf, .inl hk⟩))
        · rcases hown' k hk with h1 | h1
          · exact .inl (.inr (.inr ⟨f, hf, .inr h1⟩))
          · exact .inr h1
      · exact .inl (.inr (.inr ⟨g0, hg0, hk⟩))
theorem total_ge : ∀ {F : List DF} {f : DF}, f ∈ F → f.bytes.length ≤ total F
  | [], _, h => by cases h
  | x :: F, f, h => by
    simp only [total, List.map_cons, List.sum_cons]
    rcases List.mem_cons.1 h with rfl | h'
    · omega
    · have := total_ge h'
      unfold total at this
      omega
theorem file_in {F : List DF} {n : List UInt8} {f : DF} (h : fileOf F n = some f) : f ∈ F ∧ f.name = n := by
  have h1 := List.mem_of_find?_eq_some h
  have h2 := List.find?_some h
  exact ⟨h1, by simpa using h2⟩
set_option maxHeartbeats 2000000 in
set_option maxRecDepth 100000 in
theorem app_has (p : Nat) (d : DS) (W : World) (n s : ByteArray) (f : DF) (h : Rep W p d) (hu : upB d = true) (hnm : nameB n = true) (hsz : (s.size : Int) ≤ d.room - d.used) (hf : fileOf d.F n.data.toList = some f) :
    Calls Try.prog 15 #[dp p, .string n, .string s] W (Gives W p d (.int .i64 0) fun d' => d'.room = d.room ∧ d'.fused = d.fused ∧ d'.left = (chg d).left ∧ d'.used = d.used + (s.size : Int) ∧ ∃ f', d'.F = repl f f' d.F ∧ f'.name = f.name ∧ f'.bytes = f.bytes ++ s.data.toList ∧ f'.safe = f.safe) := by
  have hn40 : n.size ≤ 40 := by unfold nameB at hnm; simp at hnm; omega
  have hr0 := ready_c p d W h
  unfold rdyI at hr0
  rw [hu, if_pos rfl] at hr0
  have hn0 := nameable_c n (by omega) W
  rw [hnm] at hn0
  have hdr : Rep W.drew p d := h.later ((Below.refl _ _).drew)
  have hl := look_run hdr n (by unfold maxLen; omega)
  unfold ptrOf at hl
  rw [hf] at hl
  simp only at hl
  obtain ⟨y0, y1, y2, y3, y4⟩ := h.at
  obtain ⟨hf1, hf2⟩ := file_in hf
  have fi := h.files f hf1
  have x0 : W.cell? ⟨f.blk, 0, none⟩ = some f.v := (fi.box.cell 0).trans rfl
  have HL := Lib.hid h.room
  have HU := Lib.hid h.used
  have hu0 : 0 ≤ d.used := by have := h.used; omega
  have hu1 : d.used ≤ 4194304 := by have := h.used; have := h.room; omega
  have hwr : IntKind.i64.wrap (d.room - d.used) = d.room - d.used := IntWalk.i64_in _ (by have := h.room; have := h.used; omega)
  have hs4 : (s.size : Int) ≤ 4194304 := by have := h.room; omega
  have hwa : IntKind.i64.wrap (d.used + (s.size : Int)) = d.used + (s.size : Int) := IntWalk.i64_in _ (by omega)
  have hrow := fi.row
  have hbl : f.bytes.length + s.size ≤ 140737488355328 := by have := total_ge hf1; have := h.used; have := h.room; omega
  unfold dp at *
  go_enter Try.func15, Try.ntmps15
  go_wp2_with fail
  (with_reducible refine hr0.mono ?_)
  rintro en w1 ⟨rfl, hw⟩
  have hw' := hw.symm
  subst hw'
  clear hw
  go_wp2_with fail
  (with_reducible refine hn0.mono ?_)
  rintro en w2 ⟨rfl, hw⟩
  have hw' := hw.symm
  subst hw'
  clear hw
  go_wp2_with fail
  go_region_held3 (fun w => w.cell? ⟨p, 0, none⟩ = some (.int .i64 d.room) ∧ w.cell? ⟨p, 1, none⟩ = some (.int .i64 d.used)) (exact ⟨y0, y1⟩) (fail)
  obtain ⟨i0, hi, hz⟩ := Option.map_eq_some_iff.1 info5
  simp only [Prod.mk.injEq] at hz
  obtain ⟨hz0, hz1, hz2⟩ := hz
  go_wp2_with (at_builtin; refine wpList_append_str _ rfl _ _ 67 9 rfl 0 5 i0 Try.underlying67 Try.underlying9 hi hz0 hz1 hz2 f.v _ _ rfl (own_below hrow ((Below.refl _ _).drew)) s rfl hbl (Nat.zero_le _) ?_)
  intro v' w1 hown hgrow hlies
  obtain ⟨a1, a2⟩ := h.apart
  have n1 := own_ne fi.row h.box (by decide)
  have n2 := own_ne fi.row fi.box (by decide)
  have g1 : Box w1 p 59 (dkC d) := box_row (w := W.drew) h.box hgrow n1
  have g2 : Box w1 f.blk 69 #[f.v, .int .i64 (f.safe : Int)] := box_row (w := W.drew) fi.box hgrow n2
  obtain ⟨ao, n', cap, rfl⟩ : ∃ ao n' cap, v' = .slice ao n' cap := by
    rcases hown.2 with ⟨hv, _⟩ | ⟨g, cap, cur, hv, _⟩
    · exact ⟨_, _, _, hv⟩
    · exact ⟨_, _, _, hv⟩
  obtain ⟨R3, o3, f3⟩ := more_rep h hf1 hsz hown hgrow hlies
  have hch := changed_c p _ _ R3 hu
  have R := Lib.hid R3
  have O3 := Lib.hid o3
  have F3 := Lib.hid f3
  have b1 : w1.cell? ⟨p, 1, none⟩ = some (.int .i64 d.used) := (g1.cell 1).trans rfl
  have b2 : w1.frozen? ⟨p, 1, none⟩ = false := g1.frozen 1
  have b3 : w1.cell? ⟨f.blk, 0, none⟩ = some f.v := (g2.cell 0).trans rfl
  have b4 : w1.frozen? ⟨f.blk, 0, none⟩ = false := g2.frozen 0
  have hne : f.blk ≠ p := (a2 f hf1).1
  have hne' : p ≠ f.blk := fun e => hne e.symm
  clear R3 o3 f3 hrow hl y0 y1 y2 y3 y4 x0 hdr
  unfold dp at *
  go_wp2_with fail
  (with_reducible refine hch.mono ?_)
  rintro en w4 ⟨rfl, R4, o4⟩
  go_wp2
  go_ret
  refine ⟨rfl, _, R4, ⟨rfl, rfl, rfl, rfl, _, rfl, rfl, rfl, rfl⟩, ?_, F3.out⟩
  refine (O3.out.mono fun k _ hk => ?_).trans o4 fun k _ hk => .inl hk
  rcases hk with hk | hk | hk
  · exact .inl hk
  · exact .inr (.inr ⟨f, hf1, .inl hk⟩)
  · exact .inr (.inr ⟨f, hf1, .inr hk⟩)
end Go.Proofs.Ytpdimmkacjilgaa
