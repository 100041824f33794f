/- A file made shorter. No condition. -/
import Derived.Test.YtpdimmkacjilgaaDkPiece
import Derived.Deep.RegionWith
namespace Go.Proofs.Ytpdimmkacjilgaa
open Go.RowKit Go.Maps Go.ChangeMaps Go.WideMaps
set_option linter.unusedVariables false
attribute [local go_sem ↓] Go.wp_at_zero Go.wp_at_succ
/-- A file of its first k bytes. -/
def shortF (f : DF) (k : Nat) (v : Value) : DF := ⟨f.name, f.blk, v, f.bytes.take k, min f.safe k⟩
def shortD (d : DS) (f : DF) (k : Nat) (v : Value) : DS := { d with used := d.used - ((f.bytes.length : Int) - (k : Int)), F := repl f (shortF f k v) d.F }
theorem own_base {w : World} {base base' : Nat} {e : TypeId} {size : Nat} {v : Value} {n : Nat} {xs : List Value} (h : w.ownsRow base e size v n xs) (hb : base' ≤ base) : w.ownsRow base' e size v n xs := by
  refine ⟨h.1, ?_⟩
  rcases h.2 with h0 | ⟨g, cap, cur, h1, h2, h3⟩
  · exact .inl h0
  · exact .inr ⟨g, cap, cur, h1, Nat.le_trans hb h2, h3⟩
theorem short_rep {W V w1 : World} {p : Nat} {d : DS} (h : Rep W p d) {f : DF} (hf : f ∈ d.F) {k : Nat} (hk : k ≤ f.bytes.length) (hV : V = (W.setCell ⟨p, 1, none⟩ (.int .i64 (d.used - ((f.bytes.length : Int) - (k : Int))))).drew) {v' : Value} (hb : Below V.heap.size V w1) (hown : w1.ownsRow V.heap.size 5 1 v' (f.bytes.take k).length (byteCells (f.bytes.take k))) :
    Rep ((w1.setCell ⟨f.blk, 0, none⟩ v').setCell ⟨f.blk, 1, none⟩ (.int .i64 ((min f.safe k : Nat) : Int))) p (shortD d f k v') ∧ Off (fun j => j = p ∨ j = f.blk) W ((w1.setCell ⟨f.blk, 0, none⟩ v').setCell ⟨f.blk, 1, none⟩ (.int .i64 ((min f.safe k : Nat) : Int))) ∧
      ∀ j, Foot p (shortD d f k v') j → Foot p d j ∨ W.heap.size ≤ j := by
  have fi := h.files f hf
  obtain ⟨a1, a2⟩ := h.apart
  have hne := (a2 f hf).1
  have hsz : V.heap.size = W.heap.size := by rw [hV]; simp [World.setCell]
  have oV : Off (fun j => j = p) W V := by rw [hV]; exact (Off.one W ⟨p, 1, none⟩ _).drew
  have bV : Box V p 59 (dkC { d with used := d.used - ((f.bytes.length : Int) - (k : Int)) }) := by rw [hV]; exact (h.box.set 1 _).drew
  have gV : Box V f.blk 69 #[f.v, .int .i64 (f.safe : Int)] := fi.box.off oV hne
  have g1 := bV.later hb
  have g2 := gV.later hb
  have m1 := own_ne hown g1 (by decide)
  have m2 := own_ne hown g2 (by decide)
  have hnew : ∀ j, v'.ownBlock = some j → W.heap.size ≤ j := fun j hj => by
    rcases hown.2 with ⟨h1, _⟩ | ⟨g, cap, cur, h1, h2, _⟩
    · rw [h1] at hj; cases hj
    · rw [h1] at hj
      have : g = j := by simpa [Value.ownBlock] using hj
      omega
  have ho : Off (fun j => j = p ∨ j = f.blk) W ((w1.setCell ⟨f.blk, 0, none⟩ v').setCell ⟨f.blk, 1, none⟩ (.int .i64 ((min f.safe k : Nat) : Int))) :=
    ((((oV.mono fun j _ hj => .inl hj).later hb).set (.inl (.inr rfl)) _).set (.inl (.inr rfl)) _)
  have ht := total_repl (f' := shortF f k v') h.blks hf
  have hl2 : (shortF f k v').bytes.length = k := by show (f.bytes.take k).length = k; simp; omega
  rw [hl2] at ht
  have hu := h.used
  refine ⟨h.turn hf (f' := shortF f k v') rfl rfl rfl rfl ?_ (ho.mono fun j _ hj => ?_) ⟨?_, ?_, ?_, fi.name⟩ (fun j hj => .inr (hnew j hj)) h.room ⟨?_, ?_⟩ h.left, ho, ?_⟩
  · exact (g1.far (p := ⟨f.blk, 0, none⟩) (fun e => hne e.symm) v').far (p := ⟨f.blk, 1, none⟩) (fun e => hne e.symm) _
  · rcases hj with hj | hj
    · exact .inl hj
    · exact .inr (.inl hj)
  · exact (g2.set 0 v').set 1 (.int .i64 ((min f.safe k : Nat) : Int))
  · have q1 := own_off hown (Off.one w1 ⟨f.blk, 0, none⟩ v') m2
    have q2 := own_off q1 (Off.one _ ⟨f.blk, 1, none⟩ (.int .i64 ((min f.safe k : Nat) : Int))) m2
    exact own_base q2 (Nat.zero_le _)
  · show min f.safe k ≤ (f.bytes.take k).length
    have := fi.safe
    simp
    omega
  · show (total (repl f (shortF f k v') d.F) : Int) ≤ d.used - ((f.bytes.length : Int) - (k : Int))
    omega
  · show d.used - ((f.bytes.length : Int) - (k : Int)) ≤ d.room
    omega
  · intro j hj
    rcases hj with hj | hj | ⟨g, hg, hj⟩
    · exact .inl (.inl hj)
    · exact .inl (.inr (.inl hj))
    · have hg' : g ∈ repl f (shortF f k v') d.F := hg
      unfold repl at hg'
      obtain ⟨g0, hg0, rfl⟩ := List.mem_map.1 hg'
      split at hj
      · rcases hj with hj | hj
        · exact .inl (.inr (.inr ⟨f, hf, .inl hj⟩))
        · exact .inr (hnew j hj)
      · exact .inl (.inr (.inr ⟨g0, hg0, hj⟩))
set_option maxHeartbeats 2000000 in
set_option maxRecDepth 100000 in
theorem shorten_c (p : Nat) (d : DS) (W : World) (h : Rep W p d) (f : DF) (hf : f ∈ d.F) (k : Nat) (hk : k ≤ f.bytes.length) :
    Calls Try.prog 44 #[dp p, dp f.blk, .int .i64 (k : Int)] W (Gives W p d (.tuple #[]) fun d' => ∃ v, d' = shortD d f k v) := by
  obtain ⟨y0, y1, y2, y3, y4⟩ := h.at
  have yf := h.box.frozen 1
  have fi := h.files f hf
  have x0 : W.cell? ⟨f.blk, 0, none⟩ = some f.v := (fi.box.cell 0).trans rfl
  obtain ⟨ao, cap, hv⟩ : ∃ ao cap, f.v = .slice ao f.bytes.length cap := by
    rcases fi.row.2 with ⟨hv, h0⟩ | ⟨g, cap, cur, hv, _⟩
    · exact ⟨_, _, by rw [h0]; exact hv⟩
    · exact ⟨_, _, hv⟩
  rw [hv] at x0
  have hu := h.used
  have hr := h.room
  have hge := total_ge hf
  have hw1 : IntKind.i64.wrap ((f.bytes.length : Int) - (k : Int)) = (f.bytes.length : Int) - (k : Int) := IntWalk.i64_in _ (by omega)
  have hw2 : IntKind.i64.wrap (d.used - ((f.bytes.length : Int) - (k : Int))) = d.used - ((f.bytes.length : Int) - (k : Int)) := IntWalk.i64_in _ (by omega)
  have oV : Off (fun j => j = p) W (W.setCell ⟨p, 1, none⟩ (.int .i64 (d.used - ((f.bytes.length : Int) - (k : Int))))).drew := (Off.one W ⟨p, 1, none⟩ _).drew
  have gV : Box (W.setCell ⟨p, 1, none⟩ (.int .i64 (d.used - ((f.bytes.length : Int) - (k : Int))))).drew f.blk 69 #[.slice ao f.bytes.length cap, .int .i64 (f.safe : Int)] := by
    have := fi.box.off oV (h.apart.2 f hf).1
    rw [hv] at this
    exact this
  have rV := own_off fi.row oV (h.apart.2 f hf).2
  have hpc := piece_c _ f.v f.bytes k rV hk (by omega)
  rw [hv] at hpc
  clear rV oV
  have HU := Lib.hid hu
  have HR := Lib.hid hr
  have HG := Lib.hid hge
  clear hu hr hge
  unfold dp at *
  go_enter Try.func44, Try.ntmps44
  go_wp2_with fail
  go_region_with (fail)
  all_goals
    go_wp2_with fail
    (with_reducible refine hpc.mono ?_)
    rintro en w1 ⟨v', rfl, hown, hb⟩
    have g2 := gV.later hb
    have c0 : w1.cell? ⟨f.blk, 0, none⟩ = some (.slice ao f.bytes.length cap) := (g2.cell 0).trans rfl
    have c1 : w1.cell? ⟨f.blk, 1, none⟩ = some (.int .i64 (f.safe : Int)) := (g2.cell 1).trans rfl
    have d0 : w1.frozen? ⟨f.blk, 0, none⟩ = false := g2.frozen 0
    have d1 : w1.frozen? ⟨f.blk, 1, none⟩ = false := g2.frozen 1
    obtain ⟨ao', n', cap', rfl⟩ : ∃ ao n' cap, v' = .slice ao n' cap := by
      rcases hown.2 with ⟨hv, _⟩ | ⟨g, cap, cur, hv, _⟩
      · exact ⟨_, _, _, hv⟩
      · exact ⟨_, _, _, hv⟩
    obtain ⟨R3, o3, f3⟩ := short_rep h hf hk rfl hb hown
    have R := Lib.hid R3
    have O3 := Lib.hid o3
    have F3 := Lib.hid f3
    clear R3 o3 f3 hown
    have hmin : min (f.safe : Int) (k : Int) = ((min f.safe k : Nat) : Int) := by omega
    go_wp2
    go_end0
    refine ⟨rfl, _, R.out, ⟨_, rfl⟩, O3.out.mono fun j _ hj => ?_, F3.out⟩
    rcases hj with hj | hj
    · exact .inl hj
    · exact .inr (.inr ⟨f, hf, .inl hj⟩)
end Go.Proofs.Ytpdimmkacjilgaa
