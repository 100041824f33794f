/- A file let go. No condition. -/
import Derived.Test.YtpdimmkacjilgaaDkShort
import Derived.Maps.OwnSet
namespace Go.Proofs.Ytpdimmkacjilgaa
open Go.RowKit Go.Maps Go.ChangeMaps Go.WideMaps Go.MapKept
set_option linter.unusedVariables false
attribute [local go_sem ↓] Go.wp_at_zero Go.wp_at_succ
def minus (F : List DF) (n : List UInt8) : List DF := F.filter fun f => !(f.name == n)
theorem total_sub {F G : List DF} (h : F.Sublist G) : total F ≤ total G := by
  induction h with
  | slnil => exact Nat.le_refl _
  | cons x _ ih => simp only [total, List.map_cons, List.sum_cons] at ih ⊢; omega
  | cons_cons x _ ih => simp only [total, List.map_cons, List.sum_cons] at ih ⊢; omega
theorem total_minus {f : DF} : ∀ {F : List DF}, f ∈ F → total (minus F f.name) + f.bytes.length ≤ total F
  | [], h => by cases h
  | x :: F, h => by
    have hs : total (minus F f.name) ≤ total F := total_sub List.filter_sublist
    unfold minus at hs ⊢
    rw [List.filter_cons]
    rcases List.mem_cons.1 h with rfl | h'
    · simp only [beq_self_eq_true, Bool.not_true, Bool.false_eq_true, if_false]
      simp only [total, List.map_cons, List.sum_cons] at hs ⊢
      omega
    · have ih := total_minus h'
      unfold minus at ih
      split
      · simp only [total, List.map_cons, List.sum_cons] at ih ⊢
        omega
      · simp only [total, List.map_cons, List.sum_cons] at ih ⊢
        omega
theorem map_size {w : World} {k : TypeId} {b n : Nat} {F : List DF} (h : w.ownsMap Try.prog k fileTok b n (mapD F)) : w.ownsMap Try.prog k fileTok b F.length (mapD F) := map_tight h
/-- Some files are gone, and the disk's numbers have turned. -/
theorem Rep.sub {w w' : World} {p : Nat} {d d' : DS} (h : Rep w p d) (hF : d'.F.Sublist d.F) (hm : d'.map = d.map) (hbox : Box w' p 59 (dkC d')) (ho : Off (fun k => k = p ∨ d.map = some k) w w')
    (hown : ∀ m, d.map = some m → ∃ n, w'.ownsMap Try.prog 9 fileTok m n (mapD d'.F))
    (hr : 1 ≤ d'.room ∧ d'.room ≤ 4194304) (hu : (total d'.F : Int) ≤ d'.used ∧ d'.used ≤ d'.room) (hl : 0 ≤ d'.left ∧ d'.left ≤ 9223372036854775807) : Rep w' p d' := by
  obtain ⟨a1, a2⟩ := h.apart
  refine ⟨hbox, ?_, fun f hf => ?_, h.blks.sublist hF, h.rows.sublist hF, h.sorted.sublist hF, hr, hu, hl⟩
  · rw [hm]
    rcases h.map with ⟨h1, h2⟩ | ⟨m, h1, h2⟩
    · refine .inl ⟨h1, ?_⟩
      rw [h2] at hF
      exact List.sublist_nil.1 hF
    · obtain ⟨n, hn⟩ := hown m h1
      exact .inr ⟨m, h1, map_tight hn⟩
  · have hf' := hF.subset hf
    refine (h.files f hf').off ho (fun hk => ?_) (fun k hk hk2 => ?_)
    · rcases hk with hk | hk
      · exact (a2 f hf').1 hk
      · exact (h.mapapart hk hf').1 rfl
    · rcases hk2 with hk2 | hk2
      · exact (a2 f hf').2 k hk hk2
      · exact (h.mapapart hk2 hf').2 k hk rfl
def loseD (d : DS) (f : DF) : DS := { d with used := d.used - (f.bytes.length : Int), F := minus d.F f.name }
set_option maxHeartbeats 2000000 in
set_option maxRecDepth 100000 in
theorem lose_none (p : Nat) (d : DS) (W : World) (n : ByteArray) (hn : n.size ≤ maxLen) (h : Rep W p d) (hf : fileOf d.F n.data.toList = none) :
    Calls Try.prog 45 #[dp p, .string n] W (Tells W (.tuple #[])) := by
  have hl := look_run h n hn
  unfold ptrOf at hl
  rw [hf] at hl
  simp only at hl
  obtain ⟨y0, y1, y2, y3, y4⟩ := h.at
  clear h hf
  unfold dp at *
  go_enter Try.func45, Try.ntmps45
  go_wp2
  go_end0
  exact ⟨rfl, rfl⟩
set_option maxHeartbeats 2000000 in
set_option maxRecDepth 100000 in
theorem lose_some (p : Nat) (d : DS) (W : World) (n : ByteArray) (hn : n.size ≤ maxLen) (h : Rep W p d) (f : DF) (hf : fileOf d.F n.data.toList = some f) :
    Calls Try.prog 45 #[dp p, .string n] W (Gives W p d (.tuple #[]) fun d' => d' = loseD d f) := by
  have hl := look_run h n hn
  unfold ptrOf at hl
  rw [hf] at hl
  simp only at hl
  obtain ⟨y0, y1, y2, y3, y4⟩ := h.at
  have yf := h.box.frozen 1
  obtain ⟨hmem, hname⟩ := file_in hf
  have fi := h.files f hmem
  have x0 : W.cell? ⟨f.blk, 0, none⟩ = some f.v := (fi.box.cell 0).trans rfl
  obtain ⟨ao, cap, hv⟩ : ∃ ao cap, f.v = .slice ao f.bytes.length cap := by
    rcases fi.row.2 with ⟨hv, h0⟩ | ⟨g, cap, cur, hv, _⟩
    · exact ⟨_, _, by rw [h0]; exact hv⟩
    · exact ⟨_, _, hv⟩
  rw [hv] at x0
  have hu := h.used
  have hr := h.room
  have hge := total_ge hmem
  have hw2 : IntKind.i64.wrap (d.used - (f.bytes.length : Int)) = d.used - (f.bytes.length : Int) := IntWalk.i64_in _ (by omega)
  obtain ⟨m, hm, hown⟩ : ∃ m, d.map = some m ∧ W.ownsMap Try.prog 9 fileTok m d.F.length (mapD d.F) := by
    rcases h.map with ⟨_, h2⟩ | hx
    · rw [h2] at hmem; cases hmem
    · exact hx
  rw [hm] at y2 hl
  have hmp : m ≠ p := (h.apart).1 m hm
  have oV : Off (fun j => j = p) W (W.setCell ⟨p, 1, none⟩ (.int .i64 (d.used - (f.bytes.length : Int)))).drew := (Off.one W ⟨p, 1, none⟩ _).drew
  have mV := map_off hown oV hmp
  have bV : Box (W.setCell ⟨p, 1, none⟩ (.int .i64 (d.used - (f.bytes.length : Int)))).drew p 59 (dkC (loseD d f)) := (h.box.set 1 _).drew
  have HU := Lib.hid hu
  have HR := Lib.hid hr
  have HG := Lib.hid hge
  have BV := Lib.hid bV
  have OV := Lib.hid oV
  have HM := Lib.hid hm
  clear hu hr hge bV oV hown hm
  unfold dp at *
  go_enter Try.func45, Try.ntmps45
  go_wp2_with fail
  go_region_with (fail)
  all_goals
    go_wp2_with (at_delete; refine wpList_delete_own _ rfl _ _ 57 9 rfl 64 (string_keyed Try.underlying9) Try.underlying57 fileTok m d.F.length (mapD d.F) rfl mV _ _ rfl (keyOf_string_mk Try.underlying9 hn) ?_; intro w1 hown1 hturn1)
    go_end0
    rw [mapD_del, ← hname] at hown1
    have hgr : Off (fun j => j = m) (W.setCell ⟨p, 1, none⟩ (.int .i64 (d.used - (f.bytes.length : Int)))).drew w1 := by
      obtain ⟨es, clock, es', clock', hb, rfl⟩ := hturn1
      exact ⟨rfl, rfl, rfl, by simp [setBlock], fun i _ hi => heap_setBlock_other hb _ (fun e => hi e)⟩
    have hoW : Off (fun k => k = p ∨ d.map = some k) W w1 := (OV.out.mono fun j _ hj => .inl hj).trans hgr fun j _ hj => .inr (by rw [hj]; exact HM.out)
    have hbx : Box w1 p 59 (dkC (loseD d f)) := BV.out.off hgr (fun e => hmp e.symm)
    have htm := total_minus hmem
    have hu := HU.out
    have R : Rep w1 p (loseD d f) := h.sub List.filter_sublist rfl hbx hoW (fun m' hm' => by
      have : m' = m := by rw [HM.out] at hm'; injection hm' with e; exact e.symm
      subst this
      exact ⟨_, hown1⟩) h.room ⟨by show (total (minus d.F f.name) : Int) ≤ d.used - (f.bytes.length : Int); omega, by show d.used - (f.bytes.length : Int) ≤ d.room; omega⟩ h.left
    refine ⟨rfl, _, R, rfl, hoW.mono fun j _ hj => ?_, fun k hk => .inl ?_⟩
    · rcases hj with hj | hj
      · exact .inl hj
      · exact .inr (.inl hj)
    · rcases hk with hk | hk | ⟨g, hg, hk⟩
      · exact .inl hk
      · exact .inr (.inl hk)
      · exact .inr (.inr ⟨g, (List.filter_sublist.subset hg), hk⟩)
end Go.Proofs.Ytpdimmkacjilgaa
