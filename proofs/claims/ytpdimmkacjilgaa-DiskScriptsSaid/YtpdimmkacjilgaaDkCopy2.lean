/- Copy: the walk. No condition. -/
import Derived.Test.YtpdimmkacjilgaaDkCopy
import Derived.Deep.RegionHeld3
namespace Go.Proofs.Ytpdimmkacjilgaa
open Go.RowKit Go.Maps Go.ChangeMaps Go.WideMaps Go.MapKept
set_option linter.unusedVariables false
attribute [local go_sem ↓] Go.wp_at_zero Go.wp_at_succ
/-- What Copy leaves. -/
def Copies (W : World) (d : DS) (e : Ending) (w' : World) : Prop :=
  e = .returned (dp W.heap.size) ∧ (∃ c, Rep w' W.heap.size c ∧ c.room = d.room ∧ c.used = d.used ∧ c.fused = d.fused ∧ c.left = d.left ∧ absL c.F = absL d.F ∧ ∀ k, Foot W.heap.size c k → W.heap.size ≤ k) ∧ Below W.heap.size W w'
def copy0 (d : DS) : DS := ⟨d.room, d.used, none, d.fused, d.left, []⟩
theorem copy0_rep {W w : World} {p : Nat} {d : DS} (h : Rep W p d) (hw : w.heap.size = W.heap.size) : Rep (w.alloc (.cells (dkC (copy0 d)) 59)) W.heap.size (copy0 d) := by
  have hu := h.used
  rw [← hw]
  exact ⟨Box.new _ _ _, .inl ⟨rfl, rfl⟩, fun f hf => (by cases hf), .nil, .nil, .nil, h.room, ⟨by show (0 : Int) ≤ d.used; omega, hu.2⟩, h.left⟩
theorem copy0_foot {q : Nat} {d : DS} {k : Nat} (h : Foot q (copy0 d) k) : k = q := by
  rcases h with h | h | ⟨f, hf, _⟩
  · exact h
  · cases h
  · cases hf
theorem own_sl {w : World} {base size n : Nat} {t : TypeId} {v : Value} {xs : List Value} (h : w.ownsRow base t size v n xs) : ∃ ao n' cap, v = .slice ao n' cap := by
  rcases h.2 with ⟨hv, _⟩ | ⟨g, cap, cur, hv, _⟩
  · exact ⟨_, _, _, hv⟩
  · exact ⟨_, _, _, hv⟩
theorem start_none (d : DS) : (absL d.F).filter (leftP (Maps.has (mapD d.F))) = [] := by
  rw [List.filter_eq_nil_iff]
  intro x hx
  obtain ⟨f, hf, rfl⟩ := List.mem_map.1 hx
  have : Maps.has (mapD d.F) (.string (absF f).1) = true := by
    refine List.any_eq_true.2 ⟨entry f, List.mem_map.2 ⟨f, hf, rfl⟩, ?_⟩
    show (f.name == f.name) = true
    simp
  unfold leftP
  rw [this]
  simp
theorem end_all {d : DS} {left : Lit → Bool} (h : ∀ kl, left kl = false) : (absL d.F).filter (leftP left) = absL d.F := by
  rw [List.filter_eq_self]
  intro x hx
  unfold leftP
  rw [h]
  rfl
set_option maxHeartbeats 8000000 in
set_option maxRecDepth 100000 in
theorem copy_map (p : Nat) (d : DS) (W : World) (h : Rep W p d) (hlen : d.F.length ≤ 1000000) (m : Nat) (hm : d.map = some m) (hown : W.ownsMap Try.prog 9 fileTok m d.F.length (mapD d.F)) :
    Calls Try.prog 14 #[dp p] W (Copies W d) := by
  obtain ⟨y0, y1, y2, y3, y4⟩ := h.at
  have hml := hown.lt
  have hpl := h.box.lt
  have hb1 : Below W.heap.size W (W.alloc (.cells #[.int .i64 d.room, .int .i64 d.used, .map none, .bool d.fused, .int .i64 d.left] 59)).drew := ((Below.refl _ W).alloc (Nat.le_refl _) _).drew
  have k1 := And.intro (cell_later y0 hpl hb1) (And.intro (cell_later y1 hpl hb1) (And.intro (cell_later y3 hpl hb1) (cell_later y4 hpl hb1)))
  have y2' := cell_later y2 hpl hb1
  rw [hm] at y2'
  have hown1 := map_later hown hb1
  have R0 := Lib.hid ((copy0_rep (w := W) h rfl).later (Below.refl _ (W.alloc (.cells #[.int .i64 d.room, .int .i64 d.used, .map none, .bool d.fused, .int .i64 d.left] 59))).drew)
  have hs1 : (W.alloc (.cells #[.int .i64 d.room, .int .i64 d.used, .map none, .bool d.fused, .int .i64 d.left] 59)).drew.heap.size = W.heap.size + 1 := by simp
  unfold dp at *
  go_enter Try.func14, Try.ntmps14
  go_wp2_with fail
  go_region_held3 (fun w => w.cell? ⟨p, 0, none⟩ = some (.int .i64 d.room) ∧ w.cell? ⟨p, 1, none⟩ = some (.int .i64 d.used) ∧ w.cell? ⟨p, 3, none⟩ = some (.bool d.fused) ∧ w.cell? ⟨p, 4, none⟩ = some (.int .i64 d.left)) (first | exact ⟨y0, y1, y3, y4⟩ | exact k1) (fail)
  have B1 := Lib.hid hb1
  clear y0 y1 y2 y3 y4 k1 hb1
  generalize (W.alloc (.cells #[.int .i64 d.room, .int .i64 d.used, .map none, .bool d.fused, .int .i64 d.left] 59)).drew = W1 at *
  go_wp2_with (first
    | (at_range; refine wpList_range_own _ rfl _ 57 rfl 9 64 (string_keyed Try.underlying9) Try.underlying57 fileTok m d.F.length (mapD d.F) rfl hown1 ?_; intro w0 hrg0 hg0 hs0)
    | go_in)
  go_frame
  rw [hs1] at hrg0 ⊢
  have ST := Lib.hid (show CpIs W W.heap.size (W.heap.size + 1) d (Maps.has (mapD d.F)) w0 from ⟨copy0 d, R0.out.later ((Below.refl _ W1).grown hg0 (Nat.le_refl _) (fun k e => by cases e)), rfl, rfl, rfl, rfl, (start_none d).symm, fun k hk => by rw [copy0_foot hk]; omega⟩)
  have B0 := Lib.hid (B1.out.grown hg0 B1.out.size (fun k e => by cases e))
  go_loopw [4, 5] (fun _ _ wr => ∃ (left : Lit → Bool) (cnt : Nat), wr.ranges Try.prog 9 fileTok m (W.heap.size + 1) d.F.length (mapD d.F) left cnt ∧ CpIs W W.heap.size (W.heap.size + 1) d left wr ∧ Below W.heap.size W wr)
    (fun _ _ wr => wr.rangeLeft m (W.heap.size + 1))
  case atStart => exact ⟨_, _, hrg0, ST.out, B0.out⟩
  case round =>
    obtain ⟨left, cnt, hrg, hcp, hbw⟩ := hrel
    have HC := Lib.hid hcp
    have HB := Lib.hid hbw
    clear hcp hbw ST B0
    go_wp2_with (first
      | (at_next; refine wpList_next_ranges _ rfl _ rfl 9 (string_keyed Try.underlying9) fileTok Value.string mkP (fun key kl hk => key_shape key kl hk) (fun v y hv => fileTok_shape v y hv) m (W.heap.size + 1) d.F.length (mapD d.F) left cnt rfl hrg ?_ ?_)
      | go_in)
    · intro hc0 hl0
      clear hrg
      go_wp2
      go_ret
      obtain ⟨c, c1, c2, c3, c4, c5, c6, c7⟩ := HC.out
      exact ⟨rfl, ⟨c, c1, c2, c3, c4, c5, c6.trans (end_all hl0), fun k hk => (c7 k hk).1⟩, HB.out⟩
    · intro x c kl y yp w1 cnt1 hkl hlk hRv hat hrg1 hlt hg1 hsz1 hen
      obtain ⟨hkle, hxs⟩ := key_lit x kl hkl
      obtain ⟨f, hfo, hce⟩ := entry_file (y := (y, yp)) hkle (by unfold mkP at hRv; exact hRv) hat
      subst hce
      subst hkle
      unfold mkP at hen hRv ⊢
      simp only at hen ⊢
      obtain ⟨hfm, hfn⟩ := file_in hfo
      have hBw1 : Below W.heap.size W w1 := HB.out.grown hg1 HB.out.size (fun k e => by injection e with e; omega)
      have hR1 : Rep w1 p d := h.later hBw1
      have fi := hR1.files f hfm
      have hfb : f.blk < W.heap.size := (h.files f hfm).box.lt
      have x0 : w1.cell? ⟨f.blk, 0, none⟩ = some f.v := (fi.box.cell 0).trans rfl
      have x1 : w1.cell? ⟨f.blk, 1, none⟩ = some (.int .i64 (f.safe : Int)) := (fi.box.cell 1).trans rfl
      have hge := total_ge hfm
      have hus := h.used
      have hrm := h.room
      have hfl : f.bytes.length ≤ 4194304 := by omega
      obtain ⟨ao, cap, hv⟩ : ∃ ao cap, f.v = .slice ao f.bytes.length cap := by
        rcases fi.row.2 with ⟨hv, h0⟩ | ⟨g, cap, cur, hv, _⟩
        · exact ⟨_, _, by rw [h0]; exact hv⟩
        · exact ⟨_, _, hv⟩
      have hpc := piece_c w1.drew f.v f.bytes f.bytes.length (own_below fi.row (Below.refl _ _).drew) (Nat.le_refl _) hfl
      rw [List.take_length] at hpc
      rw [hv] at x0 hpc
      have xk : ∀ w', Off (fun k => W.heap.size ≤ k) w1 w' → w'.cell? ⟨f.blk, 0, none⟩ = some (.slice ao f.bytes.length cap) ∧ w'.cell? ⟨f.blk, 1, none⟩ = some (.int .i64 (f.safe : Int)) := fun w' ho =>
        ⟨(ho.cell (p := ⟨f.blk, 0, none⟩) (Nat.lt_of_lt_of_le hfb hBw1.size) (by show ¬ W.heap.size ≤ f.blk; omega)).trans x0, (ho.cell (p := ⟨f.blk, 1, none⟩) (Nat.lt_of_lt_of_le hfb hBw1.size) (by show ¬ W.heap.size ≤ f.blk; omega)).trans x1⟩
      have hCw1 : CpIs W W.heap.size (W.heap.size + 1) d left w1 := by
        obtain ⟨c, c1, c2, c3, c4, c5, c6, c7⟩ := HC.out
        refine ⟨c, c1.off (S := fun k => k = W.heap.size + 1) ⟨hg1.os, hg1.tape, hg1.output, hg1.size, fun k hk hn => hg1.block k hk (fun e => hn (by injection e))⟩ (fun k hk e => (c7 k hk).2 e), c2, c3, c4, c5, c6, c7⟩
      have hrl : W.heap.size + 1 < w1.heap.size := hrg1.lt
      have hputf : ∀ (w2 : World) (v' : Value), w2.ownsRow w1.drew.heap.size 5 1 v' f.bytes.length (byteCells f.bytes) → Below w1.drew.heap.size w1.drew w2 →
          Calls Try.prog 39 #[.pointer (some ⟨W.heap.size, 0, none⟩), .string x, .pointer (some ⟨w2.heap.size, 0, none⟩)] (w2.alloc (.cells #[v', .int .i64 (f.safe : Int)] 69))
            (fun e w' => e = .returned (.tuple #[]) ∧ CpIs W W.heap.size (W.heap.size + 1) d (fun z => left z && !z.sameKey (.string x.data.toList)) w' ∧ Off (fun k => W.heap.size ≤ k ∧ k ≠ W.heap.size + 1) (w2.alloc (.cells #[v', .int .i64 (f.safe : Int)] 69)) w') := by
        intro w2 v' hown2 hb2
        obtain ⟨c, c1, c2, c3, c4, c5, c6, c7⟩ := hCw1
        have hsd : w1.drew.heap.size = w1.heap.size := rfl
        have hs2 : w1.heap.size ≤ w2.heap.size := by have := hb2.size; omega
        have hw12 : w1.heap.size ≤ w1.heap.size := Nat.le_refl _
        have hbV : Below w1.heap.size w1 (w2.alloc (.cells #[v', .int .i64 (f.safe : Int)] 69)) := ((Below.refl _ w1).drew.trans hb2).alloc hs2 _
        have hRV : Rep (w2.alloc (.cells #[v', .int .i64 (f.safe : Int)] 69)) W.heap.size c := c1.later hbV
        have hfi : FileIn (w2.alloc (.cells #[v', .int .i64 (f.safe : Int)] 69)) (copyF f w2.heap.size v') :=
          ⟨Box.new _ _ _, own_below (own_base hown2 (Nat.zero_le _)) ((Below.refl _ w2).alloc (Nat.le_refl _) _), fi.safe, fi.name⟩
        have hvn : ∀ k, v'.ownBlock = some k → w1.heap.size ≤ k := fun k hk => (hown2.lt k hk).1
        have hnew : fileOf c.F x.data.toList = none := by
          cases hq : fileOf c.F x.data.toList with
          | none => rfl
          | some g =>
            exfalso
            obtain ⟨g1, g2⟩ := file_in hq
            have g3 : absF g ∈ (absL d.F).filter (leftP left) := by rw [← c6]; exact List.mem_map.2 ⟨g, g1, rfl⟩
            have g4 := (List.mem_filter.1 g3).2
            have g5 : (absF g).1 = x.data.toList := g2
            unfold leftP at g4
            rw [g5, hlk] at g4
            cases g4
        have hcl : c.F.length ≤ 1000000 := by
          have e1 : (absL c.F).length = c.F.length := by unfold absL; simp
          have e2 : (absL d.F).length = d.F.length := by unfold absL; simp
          have e3 := List.length_filter_le (leftP left) (absL d.F)
          rw [← c6] at e3
          omega
        have hn40 := (h.files f hfm).name
        rw [hfn] at hn40
        have hp := put_c W.heap.size c _ x (copyF f w2.heap.size v') hRV hfn hnew hcl (by have : x.data.toList.length = x.size := rfl; omega)
        refine hp.mono fun e w' hP => ?_
        have q := CpIs.put (W := W) h c hRV c2 c3 c4 c5 c6 c7 hfm (by rw [hfn]; exact hlk) hfi (fun g hg e => by
            have := (c1.files g hg).box.lt
            omega) (fun g hg k hk e => by
            have := foot_lt c1 (.inr (.inr ⟨g, hg, .inr hk⟩))
            have := hvn k e
            omega) ⟨by omega, by omega⟩ (fun k hk => by have := hvn k hk; exact ⟨by omega, by omega⟩) (Nat.lt_of_lt_of_le hrl hbV.size) (by have := hbV.size; omega) hus.1 hP
        obtain ⟨q1, q2, q3⟩ := q
        rw [hfn] at q2
        exact ⟨q1, q2, q3.mono fun k _ hk => c7 k hk⟩
      have HP := Lib.hid hputf
      have XK := Lib.hid xk
      have HB1 := Lib.hid hBw1
      clear hputf xk hBw1 hR1 fi hCw1 hge hus hrm hv
      go_wp2_with fail
      go_region_held3 (fun w => w.cell? ⟨f.blk, 0, none⟩ = some (.slice ao f.bytes.length cap) ∧ w.cell? ⟨f.blk, 1, none⟩ = some (.int .i64 (f.safe : Int)))
        (first | exact XK.out _ (Off.refl _ _).drew | exact XK.out _ ((Off.refl _ _).drew.later hb2) | exact XK.out _ (((Off.refl _ _).drew.later hb2).alloc _) | exact XK.out _ ((((Off.refl _ _).drew.later hb2).alloc _).trans ho3 fun _ _ q => q.1))
        (first
          | ((with_reducible refine hpc.mono ?_); rintro e w2 ⟨v', rfl, hown2, hb2⟩; obtain ⟨ao2, n2, cap2, rfl⟩ := own_sl hown2)
          | ((with_reducible refine (HP.out _ _ hown2 hb2).mono ?_); rintro e w3 ⟨rfl, hcp3, ho3⟩))
      have ho13 : Off (fun k => W.heap.size ≤ k ∧ k ≠ W.heap.size + 1) w1 w3 := (((Off.refl (fun k => W.heap.size ≤ k ∧ k ≠ W.heap.size + 1) w1).drew.later hb2).alloc _).trans ho3 (fun _ _ q => q)
      have hrg3 := ranges_off hrg1 ho13 (by omega) (by omega)
      have HB3 := HB1.out.trans (ho13.below HB1.out.size fun k hk => hk.1)
      go_wp2_with fail
      go_roundw
      case rel => exact ⟨_, cnt1, hrg3, hcp3, HB3⟩
      case measure => rw [hrg3.left_eq, hrg.left_eq]; exact hlt
set_option maxHeartbeats 8000000 in
set_option maxRecDepth 100000 in
theorem copy_none (p : Nat) (d : DS) (W : World) (h : Rep W p d) (hm : d.map = none) :
    Calls Try.prog 14 #[dp p] W (Copies W d) := by
  obtain ⟨y0, y1, y2, y3, y4⟩ := h.at
  have hpl := h.box.lt
  have hF : d.F = [] := by
    rcases h.map with ⟨_, h2⟩ | ⟨m, h1, _⟩
    · exact h2
    · rw [hm] at h1; cases h1
  have hb1 : Below W.heap.size W (W.alloc (.cells #[.int .i64 d.room, .int .i64 d.used, .map none, .bool d.fused, .int .i64 d.left] 59)).drew := ((Below.refl _ W).alloc (Nat.le_refl _) _).drew
  have k1 := And.intro (cell_later y0 hpl hb1) (And.intro (cell_later y1 hpl hb1) (And.intro (cell_later y3 hpl hb1) (cell_later y4 hpl hb1)))
  have y2' := cell_later y2 hpl hb1
  rw [hm] at y2'
  have R0 := Lib.hid ((copy0_rep (w := W) h rfl).later (Below.refl _ (W.alloc (.cells #[.int .i64 d.room, .int .i64 d.used, .map none, .bool d.fused, .int .i64 d.left] 59))).drew)
  have hs1 : (W.alloc (.cells #[.int .i64 d.room, .int .i64 d.used, .map none, .bool d.fused, .int .i64 d.left] 59)).drew.heap.size = W.heap.size + 1 := by simp
  unfold dp at *
  go_enter Try.func14, Try.ntmps14
  go_wp2_with fail
  go_region_held3 (fun w => w.cell? ⟨p, 0, none⟩ = some (.int .i64 d.room) ∧ w.cell? ⟨p, 1, none⟩ = some (.int .i64 d.used) ∧ w.cell? ⟨p, 3, none⟩ = some (.bool d.fused) ∧ w.cell? ⟨p, 4, none⟩ = some (.int .i64 d.left)) (first | exact ⟨y0, y1, y3, y4⟩ | exact k1) (fail)
  have B1 := Lib.hid hb1
  clear y0 y1 y2 y3 y4 k1 hb1
  generalize (W.alloc (.cells #[.int .i64 d.room, .int .i64 d.used, .map none, .bool d.fused, .int .i64 d.left] 59)).drew = W1 at *
  have hrg := run_range_nilMap (P := Try.prog) W1 57 9 64 Try.underlying57
  have hnx : ∀ ty, (Instr.next (.pointer (some ⟨W1.heap.size, 0, none⟩)) false ty).run Try.prog (W1.alloc (.mapIter none 0 #[] 0)) = _ := fun ty => run_next_nilMap _ ty 0 0 #[]
  rw [hs1] at hrg hnx
  go_wp2_with fail
  refine wp_loop_rounds 1 ?_
  rw [rounds_succ]
  go_wp2
  go_ret
  refine ⟨rfl, ⟨copy0 d, R0.out.later ((Below.refl _ W1).alloc (Nat.le_refl _) _), rfl, rfl, rfl, rfl, ?_, fun k hk => by rw [copy0_foot hk]; exact Nat.le_refl _⟩, B1.out.alloc B1.out.size _⟩
  show absL [] = absL d.F
  rw [hF]
theorem copy_c (p : Nat) (d : DS) (W : World) (h : Rep W p d) (hlen : d.F.length ≤ 1000000) : Calls Try.prog 14 #[dp p] W (Copies W d) := by
  rcases h.map with ⟨h1, _⟩ | ⟨m, h1, h2⟩
  · exact copy_none p d W h h1
  · exact copy_map p d W h hlen m h1 h2
/-- Copy, as the document has it. -/
theorem copy_do (p : Nat) (a : Ab) (S : Nat → Prop) (W : World) (h : Is W p a S) (hlen : a.L.length ≤ 1000000) :
    Calls Try.prog 14 #[dp p] W (fun e w' => e = .returned (dp W.heap.size) ∧ Is w' W.heap.size a (fun k => W.heap.size ≤ k) ∧ Below W.heap.size W w') := by
  obtain ⟨d, hR, h1, h2, h3, h4, h5, h6⟩ := h
  have hl : d.F.length ≤ 1000000 := by rw [← h4] at hlen; unfold absL at hlen; simpa using hlen
  refine (copy_c p d W hR hl).mono ?_
  rintro e w' ⟨rfl, ⟨c, c1, c2, c3, c4, c5, c6, c7⟩, hb⟩
  refine ⟨rfl, ⟨c, c1, c2.trans h1, c4.trans h2, c5.trans h3, c6.trans h4, ?_, c7⟩, hb⟩
  rw [c3, h5, ← abs_total, ← c6, abs_total]
end Go.Proofs.Ytpdimmkacjilgaa
