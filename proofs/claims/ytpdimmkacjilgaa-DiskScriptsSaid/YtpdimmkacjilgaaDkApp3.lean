/- Append to a file that is not there yet. No condition. -/
import Derived.Test.YtpdimmkacjilgaaDkNew
namespace Go.Proofs.Ytpdimmkacjilgaa
open Go.RowKit Go.Maps Go.ChangeMaps Go.WideMaps
set_option linter.unusedVariables false
set_option maxHeartbeats 2000000 in
set_option maxRecDepth 100000 in
theorem app_new (p : Nat) (d : DS) (W : World) (n s : ByteArray) (hlen : d.F.length ≤ 1000000) (h : Rep W p d) (hu : upB d = true) (hnm : nameB n = true) (hsz : (s.size : Int) ≤ d.room - d.used) (hf : fileOf d.F n.data.toList = none) :
    Calls Try.prog 15 #[dp p, .string n, .string s] W (Gives W p d (.int .i64 0) fun d' => d'.room = d.room ∧ d'.fused = d.fused ∧ d'.left = (chg d).left ∧ d'.used = d.used + (s.size : Int) ∧ ∃ f f', d'.F = repl f f' (insF f d.F) ∧ (∀ g ∈ d.F, g.blk ≠ f.blk) ∧ f.name = n.data.toList ∧ f'.name = n.data.toList ∧ f'.bytes = s.data.toList ∧ f'.safe = 0) := by
  have hn40 : n.size ≤ 40 := by unfold nameB at hnm; simp at hnm; omega
  have hr0 := ready_c p d W h
  unfold rdyI at hr0
  rw [hu, if_pos rfl] at hr0
  have hn0 := nameable_c n (by omega) W
  rw [hnm] at hn0
  have hdr : Rep W.drew p d := h.later ((Below.refl _ _).drew)
  have hl := look_run hdr n (by unfold maxLen; omega)
  unfold ptrOf at hl
  rw [hf] at hl
  simp only at hl
  obtain ⟨y0, y1, y2, y3, y4⟩ := h.at
  have HL := Lib.hid h.room
  have HU := Lib.hid h.used
  have hu0 : 0 ≤ d.used := by have := h.used; omega
  have hu1 : d.used ≤ 4194304 := by have := h.used; have := h.room; omega
  have hwr : IntKind.i64.wrap (d.room - d.used) = d.room - d.used := IntWalk.i64_in _ (by have := h.room; have := h.used; omega)
  have hs4 : (s.size : Int) ≤ 4194304 := by have := h.room; omega
  have hwa : IntKind.i64.wrap (d.used + (s.size : Int)) = d.used + (s.size : Int) := IntWalk.i64_in _ (by omega)
  have hn1 : 1 ≤ n.data.toList.length ∧ n.data.toList.length ≤ 40 := by
    have e : n.data.toList.length = n.size := rfl
    unfold nameB at hnm
    simp at hnm
    omega
  have N1 := Lib.hid hn1
  clear hn1
  unfold dp at *
  go_enter Try.func15, Try.ntmps15
  go_wp2_with fail
  (with_reducible refine hr0.mono ?_)
  rintro en w1 ⟨rfl, hw⟩
  have hw' := hw.symm
  subst hw'
  clear hw
  go_wp2_with fail
  (with_reducible refine hn0.mono ?_)
  rintro en w2 ⟨rfl, hw⟩
  have hw' := hw.symm
  subst hw'
  clear hw
  go_wp2_with fail
  go_region_held3 (fun w => w.cell? ⟨p, 0, none⟩ = some (.int .i64 d.room) ∧ w.cell? ⟨p, 1, none⟩ = some (.int .i64 d.used)) (exact ⟨y0, y1⟩) (fail)
  go_wp2_with fail
  have hbd : Below W.heap.size W (W.alloc (.cells #[.slice none 0 0, .int .i64 0] 69)).drew := ((Below.refl _ _).alloc (Nat.le_refl _) _).drew
  have h1 := h.later hbd
  have hfi : FileIn (W.alloc (.cells #[.slice none 0 0, .int .i64 0] 69)).drew (newF n.data.toList W.heap.size) := (newF_in W n.data.toList N1.out).off (Off.of_below (fun _ => False) ((Below.refl _ _).drew)) (fun x => x) (fun _ _ x => x)
  have hsz0 : (W.alloc (.cells #[.slice none 0 0, .int .i64 0] 69)).drew.heap.size = W.heap.size + 1 := by simp
  have hput : Calls Try.prog 39 #[.pointer (some ⟨p, 0, none⟩), .string n, .pointer (some ⟨W.heap.size, 0, none⟩)] (W.alloc (.cells #[.slice none 0 0, .int .i64 0] 69)).drew (Puts (W.alloc (.cells #[.slice none 0 0, .int .i64 0] 69)).drew p d (newF n.data.toList W.heap.size)) :=
    put_c p d _ n (newF n.data.toList W.heap.size) h1 rfl hf hlen (by omega)
  have hbl : ∀ g ∈ d.F, g.blk ≠ W.heap.size := fun g hg => by have := (h.files g hg).box.lt; omega
  have hmx : ∀ k, d.map = some k → k < W.heap.size := fun k hk => by
    rcases h.map with ⟨h1, _⟩ | ⟨m', h1, h2⟩
    · rw [h1] at hk; cases hk
    · have : m' = k := by rw [h1] at hk; injection hk
      have := h2.lt
      omega
  clear hl y0 y1 y2 y3 y4 hdr
  generalize (W.alloc (.cells #[.slice none 0 0, .int .i64 0] 69)).drew = V0 at *
  (with_reducible refine hput.mono ?_)
  rintro en w2 hP
  obtain ⟨m, rfl, R2, o2, hm⟩ := h1.put hfi hf hbl (fun g hg k hk e => by cases e) (by have := HU.out; show (total d.F : Int) + 0 ≤ d.used; omega) hP
  have hmem : newF n.data.toList W.heap.size ∈ (putD d m (newF n.data.toList W.heap.size)).F := insF_mem.2 (.inl rfl)
  have fi := R2.files _ hmem
  have hrow : w2.ownsRow 0 5 1 (.slice none 0 0) 0 [] := fi.row
  obtain ⟨a1, a2⟩ := R2.apart
  have hne : W.heap.size ≠ p := (a2 _ hmem).1
  have hne' : p ≠ W.heap.size := fun e => hne e.symm
  have x0 : w2.cell? ⟨W.heap.size, 0, none⟩ = some (.slice none 0 0) := (fi.box.cell 0).trans rfl
  obtain ⟨i0, hi, hz⟩ := Option.map_eq_some_iff.1 info5
  simp only [Prod.mk.injEq] at hz
  obtain ⟨hz0, hz1, hz2⟩ := hz
  go_wp2_with (at_builtin; refine wpList_append_str _ rfl _ _ 67 9 rfl 0 5 i0 Try.underlying67 Try.underlying9 hi hz0 hz1 hz2 (.slice none 0 0) _ _ rfl hrow s rfl (by omega) (Nat.zero_le _) ?_)
  intro v' w1 hown hgrow hlies
  have hgrow' : w2.drew.grownBy w1 none := ⟨hgrow.os, hgrow.tape, hgrow.output, hgrow.size, hgrow.block⟩
  have g1 : Box w1 p 59 (dkC (putD d m (newF n.data.toList W.heap.size))) := box_row (w := w2) R2.box hgrow (fun k e => by cases e)
  have g2 : Box w1 W.heap.size 69 #[.slice none 0 0, .int .i64 0] := box_row (w := w2) fi.box hgrow (fun k e => by cases e)
  obtain ⟨ao, n', cap, rfl⟩ : ∃ ao n' cap, v' = .slice ao n' cap := by
    rcases hown.2 with ⟨hv, _⟩ | ⟨g, cap, cur, hv, _⟩
    · exact ⟨_, _, _, hv⟩
    · exact ⟨_, _, _, hv⟩
  have hown2 : w1.ownsRow 0 5 1 (.slice ao n' cap) (0 + s.size) (byteCells [] ++ Go.Lib.strCells s) := by
    rw [Nat.zero_add]
    exact hown
  obtain ⟨R3, o3, f3⟩ := more_rep R2 hmem (s := s) (v' := .slice ao n' cap) hsz hown2 hgrow' hlies
  have hch : Calls Try.prog 43 #[dp p] ((w1.setCell ⟨W.heap.size, 0, none⟩ (.slice ao n' cap)).setCell ⟨p, 1, none⟩ (.int .i64 (d.used + (s.size : Int)))) (Turns ((w1.setCell ⟨W.heap.size, 0, none⟩ (.slice ao n' cap)).setCell ⟨p, 1, none⟩ (.int .i64 (d.used + (s.size : Int)))) p (chg (moreD (putD d m (newF n.data.toList W.heap.size)) (newF n.data.toList W.heap.size) (.slice ao n' cap) s)) (.int .i64 0)) := changed_c p _ _ R3 hu
  have O3 := Lib.hid o3
  have F3 := Lib.hid f3
  have b1 : w1.cell? ⟨p, 1, none⟩ = some (.int .i64 d.used) := (g1.cell 1).trans rfl
  have b2 : w1.frozen? ⟨p, 1, none⟩ = false := g1.frozen 1
  have b3 : w1.cell? ⟨W.heap.size, 0, none⟩ = some (.slice none 0 0) := (g2.cell 0).trans rfl
  have b4 : w1.frozen? ⟨W.heap.size, 0, none⟩ = false := g2.frozen 0
  have M := Lib.hid hm
  have O2 := Lib.hid o2
  have BD := Lib.hid hbd
  have MX := Lib.hid hmx
  have HBL := Lib.hid hbl
  clear R3 o3 f3 hrow x0 hm o2 hbd hmx hbl
  unfold dp at *
  go_wp2_with fail
  (with_reducible refine hch.mono ?_)
  rintro en w4 ⟨rfl, R4, o4⟩
  go_wp2
  go_ret
  have hV : W.heap.size ≤ w2.heap.size := by have := O2.out.size; omega
  refine ⟨rfl, _, R4, ⟨rfl, rfl, rfl, rfl, newF n.data.toList W.heap.size, _, rfl, HBL.out, rfl, rfl, rfl, rfl⟩, ?_, ?_⟩
  · have q1 : Off (fun k => k = p ∨ d.map = some k) W w2 := (Off.of_below (fun k => k = p ∨ d.map = some k) BD.out).trans O2.out (fun _ _ x => x)
    have q2 : Off (Foot p d) W w2 := q1.mono fun k _ hk => by
      rcases hk with hk | hk
      · exact .inl hk
      · exact .inr (.inl hk)
    refine (q2.trans O3.out fun k hlt hk => ?_).trans o4 fun k _ hk => .inl hk
    rcases hk with hk | hk | hk
    · exact .inl hk
    · have e : k = W.heap.size := hk
      omega
    · cases hk
  · intro k hk
    rcases F3.out k hk with hk | hk
    · rcases hk with hk | hk | ⟨g, hg, hk⟩
      · exact .inl (.inl hk)
      · have e : m = k := by injection hk
        subst e
        rcases M.out with h2 | h2
        · exact .inl (.inr (.inl h2))
        · exact .inr (by omega)
      · rcases insF_mem.1 hg with rfl | hg'
        · rcases hk with hk | hk
          · have e : k = W.heap.size := hk
            exact .inr (by omega)
          · cases hk
        · exact .inl (.inr (.inr ⟨g, hg', hk⟩))
    · exact .inr (by omega)
end Go.Proofs.Ytpdimmkacjilgaa
