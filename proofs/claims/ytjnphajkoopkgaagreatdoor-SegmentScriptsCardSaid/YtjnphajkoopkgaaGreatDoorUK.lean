/- Merged texts. What each proves is told at its head. -/
import Derived.Test.YtjnphajkoopkgaaGreatDoorUJ
import Derived.Maps.AppendAt
import Derived.Laws.AppendOwnNone
import Derived.Deep.RegionWith
import Derived.Maps.OwnSet
/- A file put into a disk, and what of a disk's words that keeps. No condition. -/
namespace Go.Proofs.YtjnphajkoopkgaaGreatDoor.Dk
open Go.RowKit Go.Maps Go.ChangeMaps Go.WideMaps
set_option linter.unusedVariables false
theorem insF_perm (f : DF) : ∀ F : List DF, (insF f F).Perm (f :: F)
  | [] => .refl _
  | y :: r => by
    unfold insF
    split
    · exact .refl _
    · exact (List.Perm.cons y (insF_perm f r)).trans (List.Perm.swap f y r)
theorem insF_len (f : DF) (F : List DF) : (insF f F).length = F.length + 1 := (insF_perm f F).length_eq
theorem insF_mem {f g : DF} {F : List DF} : g ∈ insF f F ↔ g = f ∨ g ∈ F := by rw [(insF_perm f F).mem_iff, List.mem_cons]
theorem total_ins (f : DF) : ∀ F : List DF, total (insF f F) = total F + f.bytes.length
  | [] => by simp [total, insF]
  | y :: r => by
    have ih := total_ins f r
    unfold insF
    split
    · simp only [total, List.map_cons, List.sum_cons]; omega
    · simp only [total, List.map_cons, List.sum_cons] at ih ⊢; omega
theorem bytes_cons {a b : UInt8} {r s : List UInt8} : bytesBefore (a :: r) (b :: s) = true ↔ a.toNat < b.toNat ∨ (a = b ∧ bytesBefore r s = true) := by
  show (decide (a < b) || (a == b && bytesBefore r s)) = true ↔ _
  simp [UInt8.lt_iff_toNat_lt]
theorem bytes_total : ∀ a b : List UInt8, bytesBefore a b = true ∨ a = b ∨ bytesBefore b a = true
  | [], [] => .inr (.inl rfl)
  | [], _ :: _ => .inl rfl
  | _ :: _, [] => .inr (.inr rfl)
  | a :: r, b :: s => by
    rw [bytes_cons, bytes_cons]
    rcases Nat.lt_trichotomy a.toNat b.toNat with h | h | h
    · exact .inl (.inl h)
    · have e : a = b := UInt8.toNat_inj.1 h
      subst e
      rcases bytes_total r s with k | k | k
      · exact .inl (.inr ⟨rfl, k⟩)
      · exact .inr (.inl (by rw [k]))
      · exact .inr (.inr (.inr ⟨rfl, k⟩))
    · exact .inr (.inr (.inl h))
theorem bytes_trans : ∀ {a b c : List UInt8}, bytesBefore a b = true → bytesBefore b c = true → bytesBefore a c = true
  | [], [], _, h, _ => by cases h
  | [], _ :: _, [], _, k => by cases k
  | [], _ :: _, _ :: _, _, _ => rfl
  | _ :: _, [], _, h, _ => by cases h
  | _ :: _, _ :: _, [], _, k => by cases k
  | a :: r, b :: s, c :: t, h, k => by
    rw [bytes_cons] at h k ⊢
    rcases h with h | ⟨h, h2⟩
    · rcases k with k | ⟨k, k2⟩
      · exact .inl (by omega)
      · exact .inl (by rw [← k]; exact h)
    · rcases k with k | ⟨k, k2⟩
      · exact .inl (by rw [h]; exact k)
      · exact .inr ⟨h.trans k, bytes_trans h2 k2⟩
theorem bytes_irrefl : ∀ a : List UInt8, bytesBefore a a = false
  | [] => rfl
  | a :: r => by
    have ih := bytes_irrefl r
    cases h : bytesBefore (a :: r) (a :: r) with
    | false => rfl
    | true =>
      rw [bytes_cons] at h
      rcases h with h | ⟨_, h⟩
      · omega
      · rw [ih] at h; cases h
theorem insF_sorted {f : DF} : ∀ {F : List DF}, F.Pairwise (fun f g => bytesBefore f.name g.name = true) → (∀ g ∈ F, g.name ≠ f.name) → (insF f F).Pairwise (fun f g => bytesBefore f.name g.name = true)
  | [], _, _ => by simp [insF]
  | y :: r, hp, hn => by
    obtain ⟨h1, h2⟩ := List.pairwise_cons.1 hp
    unfold insF
    split
    · rename_i hb
      refine List.pairwise_cons.2 ⟨fun g hg => ?_, hp⟩
      rcases List.mem_cons.1 hg with rfl | hg'
      · exact hb
      · exact bytes_trans hb (h1 g hg')
    · rename_i hb
      refine List.pairwise_cons.2 ⟨fun g hg => ?_, insF_sorted h2 fun g hg => hn g (by simp [hg])⟩
      rcases insF_mem.1 hg with rfl | hg'
      · rcases bytes_total y.name g.name with h | h | h
        · exact h
        · exact absurd h (hn y (by simp))
        · exact absurd h hb
      · exact h1 g hg'
theorem insF_pair {R : DF → DF → Prop} {f : DF} : ∀ {F : List DF}, F.Pairwise R → (∀ g ∈ F, R f g ∧ R g f) → (insF f F).Pairwise R
  | [], _, _ => by simp [insF]
  | y :: r, hp, hn => by
    obtain ⟨h1, h2⟩ := List.pairwise_cons.1 hp
    unfold insF
    split
    · exact List.pairwise_cons.2 ⟨fun g hg => (hn g hg).1, hp⟩
    · refine List.pairwise_cons.2 ⟨fun g hg => ?_, insF_pair h2 fun g hg => hn g (by simp [hg])⟩
      rcases insF_mem.1 hg with rfl | hg'
      · exact (hn y (by simp)).2
      · exact h1 g hg'
theorem none_name {F : List DF} {n : List UInt8} (h : fileOf F n = none) : ∀ g ∈ F, g.name ≠ n := fun g hg => by
  have := List.find?_eq_none.1 h g hg
  simpa using this
/-- A put gives a disk with a file more. -/
def putD (d : DS) (m : Nat) (f : DF) : DS := { d with map := some m, F := insF f d.F }
theorem Rep.put {W w' : World} {p : Nat} {d : DS} {f : DF} {en : Ending} (h : Rep W p d) (hfi : FileIn W f) (hnew : fileOf d.F f.name = none) (hb : ∀ g ∈ d.F, g.blk ≠ f.blk) (hr : ∀ g ∈ d.F, ∀ k, g.v.ownBlock = some k → f.v.ownBlock ≠ some k)
    (ht : (total d.F : Int) + (f.bytes.length : Int) ≤ d.used) (hp : Puts W p d f en w') : ∃ m, en = .returned (.tuple #[]) ∧ Rep w' p (putD d m f) ∧ Off (fun k => k = p ∨ d.map = some k) W w' ∧ (d.map = some m ∨ W.heap.size ≤ m) := by
  obtain ⟨he, m, hown, hbox, ho, hm⟩ := hp
  refine ⟨m, he, ?_, ho, hm⟩
  obtain ⟨a1, a2⟩ := h.apart
  have far : ∀ g : DF, FileIn W g → (∀ m, d.map = some m → m ≠ g.blk ∧ ∀ k, g.v.ownBlock = some k → k ≠ m) → FileIn w' g := fun g hg hgm => by
    have e1 : g.blk ≠ p := fun e => by
      have q1 := hg.box
      have q2 := h.box
      unfold Box at q1 q2
      rw [e, q2] at q1
      injection q1 with q1
      injection q1 with _ q1 _
      exact absurd q1 (by decide)
    have e2 := own_ne hg.row h.box (by decide)
    refine hg.off ho (fun hk => ?_) (fun k hk hk2 => ?_)
    · rcases hk with hk | hk
      · exact e1 hk
      · exact (hgm _ hk).1 rfl
    · rcases hk2 with hk2 | hk2
      · exact e2 k hk hk2
      · exact (hgm _ hk2).2 k hk rfl
  have mapno : ∀ m, d.map = some m → ∃ es clock, W.heap[m]? = some (.map es clock) := fun m hm => by
    rcases h.map with ⟨h1, _⟩ | ⟨m', h1, es, clock, hb, _⟩
    · rw [h1] at hm; cases hm
    · have : m' = m := by rw [h1] at hm; injection hm
      subst this
      exact ⟨es, clock, hb⟩
  have fm : ∀ g : DF, FileIn W g → ∀ m, d.map = some m → m ≠ g.blk ∧ ∀ k, g.v.ownBlock = some k → k ≠ m := fun g hg m hm => by
    obtain ⟨es, clock, hb⟩ := mapno m hm
    refine ⟨fun e => ?_, fun k hk e => ?_⟩
    · have h1 := hg.box
      unfold Box at h1
      rw [← e, hb] at h1
      cases h1
    · subst e
      rcases hg.row.2 with ⟨h1, _⟩ | ⟨g', cap, cur, h1, _, h3, _⟩
      · rw [h1] at hk; cases hk
      · rw [h1] at hk
        have : g' = k := by simpa [Value.ownBlock] using hk
        subst this
        rw [hb] at h3
        cases h3
  refine ⟨hbox, .inr ⟨m, rfl, ?_⟩, fun g hg => ?_, ?_, ?_, ?_, h.room, ⟨?_, h.used.2⟩, h.left⟩
  · show w'.ownsMap Tryz.prog 9 fileTok m (insF f d.F).length (mapD (insF f d.F))
    rw [insF_len]
    exact hown
  · rcases insF_mem.1 hg with rfl | hg'
    · exact far _ hfi (fm _ hfi)
    · exact far g (h.files g hg') (fm g (h.files g hg'))
  · exact insF_pair h.blks fun g hg => ⟨fun e => hb g hg e.symm, hb g hg⟩
  · exact insF_pair h.rows fun g hg => ⟨fun k hk hk2 => hr g hg k hk2 hk, hr g hg⟩
  · exact insF_sorted h.sorted (none_name hnew)
  · show (total (insF f d.F) : Int) ≤ d.used
    rw [total_ins]
    omega
def newF (n : List UInt8) (b : Nat) : DF := ⟨n, b, .slice none 0 0, [], 0⟩
theorem newF_in (w : World) (n : List UInt8) (hn : 1 ≤ n.length ∧ n.length ≤ 40) : FileIn (w.alloc (.cells #[.slice none 0 0, .int .i64 0] 108)) (newF n w.heap.size) :=
  ⟨Box.new _ _ _, World.ownsRow_nil _ _ _ _, Nat.zero_le _, hn⟩
theorem fileOf_mem {F : List DF} (hp : F.Pairwise (fun f g => bytesBefore f.name g.name = true)) {f : DF} (hf : f ∈ F) : fileOf F f.name = some f := by
  induction F with
  | nil => cases hf
  | cons x F ih =>
    obtain ⟨h1, h2⟩ := List.pairwise_cons.1 hp
    unfold fileOf
    rcases List.mem_cons.1 hf with rfl | hf'
    · simp
    · rw [List.find?_cons]
      have hne : (x.name == f.name) = false := by
        rw [beq_eq_false_iff_ne]
        intro e
        have := h1 f hf'
        rw [e, bytes_irrefl] at this
        cases this
      rw [hne]
      exact ih h2 hf'
end Go.Proofs.YtjnphajkoopkgaaGreatDoor.Dk
/- Append to a file that is not there yet. No condition. -/
namespace Go.Proofs.YtjnphajkoopkgaaGreatDoor.Dk
open Go.RowKit Go.Maps Go.ChangeMaps Go.WideMaps
set_option linter.unusedVariables false
set_option maxHeartbeats 2000000 in
set_option maxRecDepth 100000 in
theorem app_new (p : Nat) (d : DS) (W : World) (n s : ByteArray) (hlen : d.F.length ≤ 1000000) (h : Rep W p d) (hu : upB d = true) (hnm : nameB n = true) (hsz : (s.size : Int) ≤ d.room - d.used) (hf : fileOf d.F n.data.toList = none) :
    Calls Tryz.prog 37 #[dp p, .string n, .string s] W (Gives W p d (.int .i64 0) fun d' => d'.room = d.room ∧ d'.fused = d.fused ∧ d'.left = (chg d).left ∧ d'.used = d.used + (s.size : Int) ∧ ∃ f f', d'.F = repl f f' (insF f d.F) ∧ (∀ g ∈ d.F, g.blk ≠ f.blk) ∧ f.name = n.data.toList ∧ f'.name = n.data.toList ∧ f'.bytes = s.data.toList ∧ f'.safe = 0) := by
  have hn40 : n.size ≤ 40 := by unfold nameB at hnm; simp at hnm; omega
  have hr0 := ready_c p d W h
  unfold rdyI at hr0
  rw [hu, if_pos rfl] at hr0
  have hn0 := nameable_c n (by omega) W
  rw [hnm] at hn0
  have hdr : Rep W.drew p d := h.later ((Below.refl _ _).drew)
  have hl := look_run hdr n (by unfold maxLen; omega)
  unfold ptrOf at hl
  rw [hf] at hl
  simp only at hl
  obtain ⟨y0, y1, y2, y3, y4⟩ := h.at
  have HL := Lib.hid h.room
  have HU := Lib.hid h.used
  have hu0 : 0 ≤ d.used := by have := h.used; omega
  have hu1 : d.used ≤ 4194304 := by have := h.used; have := h.room; omega
  have hwr : IntKind.i64.wrap (d.room - d.used) = d.room - d.used := IntWalk.i64_in _ (by have := h.room; have := h.used; omega)
  have hs4 : (s.size : Int) ≤ 4194304 := by have := h.room; omega
  have hwa : IntKind.i64.wrap (d.used + (s.size : Int)) = d.used + (s.size : Int) := IntWalk.i64_in _ (by omega)
  have hn1 : 1 ≤ n.data.toList.length ∧ n.data.toList.length ≤ 40 := by
    have e : n.data.toList.length = n.size := rfl
    unfold nameB at hnm
    simp at hnm
    omega
  have N1 := Lib.hid hn1
  clear hn1
  unfold dp at *
  go_enter Tryz.func37, Tryz.ntmps37
  go_wp2_with fail
  (with_reducible refine hr0.mono ?_)
  rintro en w1 ⟨rfl, hw⟩
  have hw' := hw.symm
  subst hw'
  clear hw
  go_wp2_with fail
  (with_reducible refine hn0.mono ?_)
  rintro en w2 ⟨rfl, hw⟩
  have hw' := hw.symm
  subst hw'
  clear hw
  go_wp2_with fail
  go_region_held3 (fun w => w.cell? ⟨p, 0, none⟩ = some (.int .i64 d.room) ∧ w.cell? ⟨p, 1, none⟩ = some (.int .i64 d.used)) (exact ⟨y0, y1⟩) (fail)
  go_wp2_with fail
  have hbd : Below W.heap.size W (W.alloc (.cells #[.slice none 0 0, .int .i64 0] 108)).drew := ((Below.refl _ _).alloc (Nat.le_refl _) _).drew
  have h1 := h.later hbd
  have hfi : FileIn (W.alloc (.cells #[.slice none 0 0, .int .i64 0] 108)).drew (newF n.data.toList W.heap.size) := (newF_in W n.data.toList N1.out).off (Off.of_below (fun _ => False) ((Below.refl _ _).drew)) (fun x => x) (fun _ _ x => x)
  have hsz0 : (W.alloc (.cells #[.slice none 0 0, .int .i64 0] 108)).drew.heap.size = W.heap.size + 1 := by simp
  have hput : Calls Tryz.prog 67 #[.pointer (some ⟨p, 0, none⟩), .string n, .pointer (some ⟨W.heap.size, 0, none⟩)] (W.alloc (.cells #[.slice none 0 0, .int .i64 0] 108)).drew (Puts (W.alloc (.cells #[.slice none 0 0, .int .i64 0] 108)).drew p d (newF n.data.toList W.heap.size)) :=
    put_c p d _ n (newF n.data.toList W.heap.size) h1 rfl hf hlen (by omega)
  have hbl : ∀ g ∈ d.F, g.blk ≠ W.heap.size := fun g hg => by have := (h.files g hg).box.lt; omega
  have hmx : ∀ k, d.map = some k → k < W.heap.size := fun k hk => by
    rcases h.map with ⟨h1, _⟩ | ⟨m', h1, h2⟩
    · rw [h1] at hk; cases hk
    · have : m' = k := by rw [h1] at hk; injection hk
      have := h2.lt
      omega
  clear hl y0 y1 y2 y3 y4 hdr
  generalize (W.alloc (.cells #[.slice none 0 0, .int .i64 0] 108)).drew = V0 at *
  (with_reducible refine hput.mono ?_)
  rintro en w2 hP
  obtain ⟨m, rfl, R2, o2, hm⟩ := h1.put hfi hf hbl (fun g hg k hk e => by cases e) (by have := HU.out; show (total d.F : Int) + 0 ≤ d.used; omega) hP
  have hmem : newF n.data.toList W.heap.size ∈ (putD d m (newF n.data.toList W.heap.size)).F := insF_mem.2 (.inl rfl)
  have fi := R2.files _ hmem
  have hrow : w2.ownsRow 0 5 1 (.slice none 0 0) 0 [] := fi.row
  obtain ⟨a1, a2⟩ := R2.apart
  have hne : W.heap.size ≠ p := (a2 _ hmem).1
  have hne' : p ≠ W.heap.size := fun e => hne e.symm
  have x0 : w2.cell? ⟨W.heap.size, 0, none⟩ = some (.slice none 0 0) := (fi.box.cell 0).trans rfl
  obtain ⟨i0, hi, hz⟩ := Option.map_eq_some_iff.1 info5
  simp only [Prod.mk.injEq] at hz
  obtain ⟨hz0, hz1, hz2⟩ := hz
  go_wp2_with (at_builtin; refine wpList_append_str _ rfl _ _ 106 9 rfl 0 5 i0 Tryz.underlying106 Tryz.underlying9 hi hz0 hz1 hz2 (.slice none 0 0) _ _ rfl hrow s rfl (by omega) (Nat.zero_le _) ?_)
  intro v' w1 hown hgrow hlies
  have hgrow' : w2.drew.grownBy w1 none := ⟨hgrow.os, hgrow.tape, hgrow.output, hgrow.size, hgrow.block⟩
  have g1 : Box w1 p 68 (dkC (putD d m (newF n.data.toList W.heap.size))) := box_row (w := w2) R2.box hgrow (fun k e => by cases e)
  have g2 : Box w1 W.heap.size 108 #[.slice none 0 0, .int .i64 0] := box_row (w := w2) fi.box hgrow (fun k e => by cases e)
  obtain ⟨ao, n', cap, rfl⟩ : ∃ ao n' cap, v' = .slice ao n' cap := by
    rcases hown.2 with ⟨hv, _⟩ | ⟨g, cap, cur, hv, _⟩
    · exact ⟨_, _, _, hv⟩
    · exact ⟨_, _, _, hv⟩
  have hown2 : w1.ownsRow 0 5 1 (.slice ao n' cap) (0 + s.size) (byteCells [] ++ Go.Lib.strCells s) := by
    rw [Nat.zero_add]
    exact hown
  obtain ⟨R3, o3, f3⟩ := more_rep R2 hmem (s := s) (v' := .slice ao n' cap) hsz hown2 hgrow' hlies
  have hch : Calls Tryz.prog 59 #[dp p] ((w1.setCell ⟨W.heap.size, 0, none⟩ (.slice ao n' cap)).setCell ⟨p, 1, none⟩ (.int .i64 (d.used + (s.size : Int)))) (Turns ((w1.setCell ⟨W.heap.size, 0, none⟩ (.slice ao n' cap)).setCell ⟨p, 1, none⟩ (.int .i64 (d.used + (s.size : Int)))) p (chg (moreD (putD d m (newF n.data.toList W.heap.size)) (newF n.data.toList W.heap.size) (.slice ao n' cap) s)) (.int .i64 0)) := changed_c p _ _ R3 hu
  have O3 := Lib.hid o3
  have F3 := Lib.hid f3
  have b1 : w1.cell? ⟨p, 1, none⟩ = some (.int .i64 d.used) := (g1.cell 1).trans rfl
  have b2 : w1.frozen? ⟨p, 1, none⟩ = false := g1.frozen 1
  have b3 : w1.cell? ⟨W.heap.size, 0, none⟩ = some (.slice none 0 0) := (g2.cell 0).trans rfl
  have b4 : w1.frozen? ⟨W.heap.size, 0, none⟩ = false := g2.frozen 0
  have M := Lib.hid hm
  have O2 := Lib.hid o2
  have BD := Lib.hid hbd
  have MX := Lib.hid hmx
  have HBL := Lib.hid hbl
  clear R3 o3 f3 hrow x0 hm o2 hbd hmx hbl
  unfold dp at *
  go_wp2_with fail
  (with_reducible refine hch.mono ?_)
  rintro en w4 ⟨rfl, R4, o4⟩
  go_wp2
  go_ret
  have hV : W.heap.size ≤ w2.heap.size := by have := O2.out.size; omega
  refine ⟨rfl, _, R4, ⟨rfl, rfl, rfl, rfl, newF n.data.toList W.heap.size, _, rfl, HBL.out, rfl, rfl, rfl, rfl⟩, ?_, ?_⟩
  · have q1 : Off (fun k => k = p ∨ d.map = some k) W w2 := (Off.of_below (fun k => k = p ∨ d.map = some k) BD.out).trans O2.out (fun _ _ x => x)
    have q2 : Off (Foot p d) W w2 := q1.mono fun k _ hk => by
      rcases hk with hk | hk
      · exact .inl hk
      · exact .inr (.inl hk)
    refine (q2.trans O3.out fun k hlt hk => ?_).trans o4 fun k _ hk => .inl hk
    rcases hk with hk | hk | hk
    · exact .inl hk
    · have e : k = W.heap.size := hk
      omega
    · cases hk
  · intro k hk
    rcases F3.out k hk with hk | hk
    · rcases hk with hk | hk | ⟨g, hg, hk⟩
      · exact .inl (.inl hk)
      · have e : m = k := by injection hk
        subst e
        rcases M.out with h2 | h2
        · exact .inl (.inr (.inl h2))
        · exact .inr (by omega)
      · rcases insF_mem.1 hg with rfl | hg'
        · rcases hk with hk | hk
          · have e : k = W.heap.size := hk
            exact .inr (by omega)
          · cases hk
        · exact .inl (.inr (.inr ⟨g, hg', hk⟩))
    · exact .inr (by omega)
end Go.Proofs.YtjnphajkoopkgaaGreatDoor.Dk
/- Append's refusals, Read, Sync. No condition. -/
namespace Go.Proofs.YtjnphajkoopkgaaGreatDoor.Dk
open Go.RowKit Go.Maps Go.ChangeMaps Go.WideMaps
set_option linter.unusedVariables false
theorem own_bsl {w : World} {e base : Nat} {v : Value} {l : List UInt8} (h : w.ownsRow base e 1 v l.length (byteCells l)) : BSl w e base v l := by
  rcases h.2 with ⟨hv, hn⟩ | ⟨g, cap, cur, hv, hb, hg, hnc, hcm, hcs, ht⟩
  · exact .inl ⟨hv, List.length_eq_zero_iff.1 hn⟩
  · refine .inr ⟨g, cap, hv, hb, cur, 0, 0, hg, .inl (Nat.le_refl _), by omega, hnc, fun j c hj => ?_⟩
    have h1 : (byteCells l)[j]? = some (.int .u8 (c.toNat : Int)) := by unfold byteCells; rw [List.getElem?_map, hj]; rfl
    rw [← ht, List.getElem?_take] at h1
    split at h1
    · simpa using h1
    · cases h1
theorem app_down (p : Nat) (d : DS) (n s : ByteArray) (W : World) (h : Rep W p d) (hd : upB d = false) : Calls Tryz.prog 37 #[dp p, .string n, .string s] W (Tells W (.int .i64 7)) := by
  have hu := ready_c p d W h
  unfold rdyI at hu
  rw [hd] at hu
  simp only [Bool.false_eq_true, if_false] at hu
  clear h hd
  unfold dp at *
  go_enter Tryz.func37, Tryz.ntmps37
  go_wp2_with fail
  (with_reducible refine hu.mono ?_)
  rintro en w1 ⟨rfl, rfl⟩
  go_wp2
  go_ret
  exact ⟨rfl, rfl⟩
theorem app_name (p : Nat) (d : DS) (n s : ByteArray) (W : World) (hn : n.size ≤ 140737488351232) (h : Rep W p d) (hd : upB d = true) (hnm : nameB n = false) : Calls Tryz.prog 37 #[dp p, .string n, .string s] W (Tells W (.int .i64 1)) := by
  have hu := ready_c p d W h
  unfold rdyI at hu
  rw [hd] at hu
  simp only [if_true] at hu
  have hn0 := nameable_c n hn W
  rw [hnm] at hn0
  clear h hd hnm
  unfold dp at *
  go_enter Tryz.func37, Tryz.ntmps37
  go_wp2_with fail
  (with_reducible refine hu.mono ?_)
  rintro en w1 ⟨rfl, hw⟩
  have hw' := hw.symm
  subst hw'
  go_wp2_with fail
  (with_reducible refine hn0.mono ?_)
  rintro en w1 ⟨rfl, rfl⟩
  go_wp2
  go_ret
  exact ⟨rfl, rfl⟩
theorem read_down (p : Nat) (d : DS) (n : ByteArray) (W : World) (h : Rep W p d) (hd : upB d = false) : Calls Tryz.prog 28 #[dp p, .string n] W (Tells W (.tuple #[.string ⟨#[]⟩, .int .i64 7])) := by
  have hu := find_down p d n W h hd
  clear h hd
  unfold dp at *
  go_enter Tryz.func28, Tryz.ntmps28
  go_wp2_with fail
  (with_reducible refine hu.mono ?_)
  rintro en w1 ⟨rfl, rfl⟩
  go_wp2
  go_ret2
  exact ⟨rfl, rfl⟩
theorem read_none (p : Nat) (d : DS) (n : ByteArray) (hn : n.size ≤ maxLen) (W : World) (h : Rep W p d) (hd : upB d = true) (hf : fileOf d.F n.data.toList = none) : Calls Tryz.prog 28 #[dp p, .string n] W (Tells W (.tuple #[.string ⟨#[]⟩, .int .i64 6])) := by
  have hu := find_none p d n hn W h hd hf
  clear h hd hf
  unfold dp at *
  go_enter Tryz.func28, Tryz.ntmps28
  go_wp2_with fail
  (with_reducible refine hu.mono ?_)
  rintro en w1 ⟨rfl, rfl⟩
  go_wp2
  go_ret2
  exact ⟨rfl, rfl⟩
theorem read_some (p : Nat) (d : DS) (n : ByteArray) (hn : n.size ≤ maxLen) (W : World) (h : Rep W p d) (hd : upB d = true) (f : DF) (hf : fileOf d.F n.data.toList = some f) : Calls Tryz.prog 28 #[dp p, .string n] W (Tells W (.tuple #[.string ⟨f.bytes.toArray⟩, .int .i64 0])) := by
  have hu := find_some p d n hn W h hd f hf
  have fi := h.files f (file_in hf).1
  have x0 : W.cell? ⟨f.blk, 0, none⟩ = some f.v := (fi.box.cell 0).trans rfl
  have hcv := (own_bsl fi.row).text (P := Tryz.prog) 106 9 Tryz.underlying106 Tryz.underlying5 Tryz.underlying9
  obtain ⟨ao, n', cap, hv⟩ : ∃ ao n' cap, f.v = .slice ao n' cap := by
    rcases fi.row.2 with ⟨hv, _⟩ | ⟨g, cap, cur, hv, _⟩
    · exact ⟨_, _, _, hv⟩
    · exact ⟨_, _, _, hv⟩
  rw [hv] at x0 hcv
  clear h hd hf fi hv
  unfold dp at *
  go_enter Tryz.func28, Tryz.ntmps28
  go_wp2_with fail
  (with_reducible refine hu.mono ?_)
  rintro en w1 ⟨rfl, hw⟩
  have hw' := hw.symm
  subst hw'
  go_wp2
  go_ret2
  exact ⟨rfl, rfl⟩
def syncF (f : DF) : DF := { f with safe := f.bytes.length }
def syncD (d : DS) (f : DF) : DS := { d with F := repl f (syncF f) d.F }
theorem sync_rep {W : World} {p : Nat} {d : DS} (h : Rep W p d) {f : DF} (hf : f ∈ d.F) : Rep (W.setCell ⟨f.blk, 1, none⟩ (.int .i64 (f.bytes.length : Int))) p (syncD d f) ∧ Off (fun k => k = f.blk) W (W.setCell ⟨f.blk, 1, none⟩ (.int .i64 (f.bytes.length : Int))) ∧ ∀ k, Foot p (syncD d f) k → Foot p d k := by
  have fi := h.files f hf
  obtain ⟨a1, a2⟩ := h.apart
  have n2 := own_ne fi.row fi.box (by decide)
  have ho : Off (fun k => k = f.blk) W (W.setCell ⟨f.blk, 1, none⟩ (.int .i64 (f.bytes.length : Int))) := Off.one W ⟨f.blk, 1, none⟩ _
  have ht := total_repl (f' := syncF f) h.blks hf
  have hl2 : (syncF f).bytes.length = f.bytes.length := rfl
  rw [hl2] at ht
  have hu := h.used
  refine ⟨h.turn hf (f' := syncF f) rfl rfl rfl rfl ?_ (ho.mono fun k _ hk => .inr (.inl hk)) ⟨?_, ?_, Nat.le_refl _, fi.name⟩ (fun k hk => .inl hk) h.room ⟨?_, h.used.2⟩ h.left, ho, ?_⟩
  · exact h.box.far (p := ⟨f.blk, 1, none⟩) (fun e => (a2 f hf).1 e.symm) _
  · exact fi.box.set 1 _
  · exact own_off fi.row ho n2
  · show (total (repl f (syncF f) d.F) : Int) ≤ d.used
    omega
  · intro k hk
    rcases hk with hk | hk | ⟨g, hg, hk⟩
    · exact .inl hk
    · exact .inr (.inl hk)
    · have hg' : g ∈ repl f (syncF f) d.F := hg
      unfold repl at hg'
      obtain ⟨g0, hg0, rfl⟩ := List.mem_map.1 hg'
      split at hk
      · exact .inr (.inr ⟨f, hf, hk⟩)
      · exact .inr (.inr ⟨g0, hg0, hk⟩)
theorem sync_some (p : Nat) (d : DS) (n : ByteArray) (hn : n.size ≤ maxLen) (W : World) (h : Rep W p d) (hd : upB d = true) (f : DF) (hf : fileOf d.F n.data.toList = some f) :
    Calls Tryz.prog 49 #[dp p, .string n] W (Gives W p d (.int .i64 0) fun d' => d' = chg (syncD d f)) := by
  have hu := find_some p d n hn W h hd f hf
  have hmem := (file_in hf).1
  have fi := h.files f hmem
  have x0 : W.cell? ⟨f.blk, 0, none⟩ = some f.v := (fi.box.cell 0).trans rfl
  have x1 : W.cell? ⟨f.blk, 1, none⟩ = some (.int .i64 (f.safe : Int)) := (fi.box.cell 1).trans rfl
  have x2 : W.frozen? ⟨f.blk, 1, none⟩ = false := fi.box.frozen 1
  obtain ⟨ao, cap, hv⟩ : ∃ ao cap, f.v = .slice ao f.bytes.length cap := by
    rcases fi.row.2 with ⟨hv, h0⟩ | ⟨g, cap, cur, hv, _⟩
    · exact ⟨_, _, by rw [h0]; exact hv⟩
    · exact ⟨_, _, hv⟩
  rw [hv] at x0
  obtain ⟨R3, o3, f3⟩ := sync_rep h hmem
  have hch := changed_c p _ _ R3 hd
  have O3 := Lib.hid o3
  have F3 := Lib.hid f3
  clear R3 o3 f3 h hd hf fi hv
  unfold dp at *
  go_enter Tryz.func49, Tryz.ntmps49
  go_wp2_with fail
  (with_reducible refine hu.mono ?_)
  rintro en w1 ⟨rfl, hw⟩
  have hw' := hw.symm
  subst hw'
  go_wp2_with fail
  (with_reducible refine hch.mono ?_)
  rintro en w4 ⟨rfl, R4, o4⟩
  go_wp2
  go_ret
  refine ⟨rfl, _, R4, rfl, (O3.out.mono fun k _ hk => ?_).trans o4 fun k _ hk => .inl hk, fun k hk => .inl (F3.out k hk)⟩
  exact .inr (.inr ⟨f, hmem, .inl hk⟩)
end Go.Proofs.YtjnphajkoopkgaaGreatDoor.Dk
/- A piece of a file's bytes in memory of its own; a file made shorter. No condition. -/
namespace Go.Proofs.YtjnphajkoopkgaaGreatDoor.Dk
open Go.RowKit Go.Maps Go.ChangeMaps Go.WideMaps
set_option linter.unusedVariables false
/-- What a piece is. -/
def Piece (W : World) (l : List UInt8) (e : Ending) (w' : World) : Prop :=
  ∃ v, e = .returned v ∧ w'.ownsRow W.heap.size 5 1 v l.length (byteCells l) ∧ Below W.heap.size W w'
theorem piece_c (W : World) (v : Value) (l : List UInt8) (k : Nat) (h : W.ownsRow 0 5 1 v l.length (byteCells l)) (hk : k ≤ l.length) (hl : l.length ≤ 4194304) :
    Calls Tryz.prog 93 #[v, .int .i64 (k : Int)] W (Piece W (l.take k)) := by
  obtain ⟨i0, hi, hz⟩ := Option.map_eq_some_iff.1 info5
  simp only [Prod.mk.injEq] at hz
  obtain ⟨hz0, hz1, hz2⟩ := hz
  have hlen : (l.take k).length = k := by simp; omega
  rcases h.2 with ⟨rfl, hn⟩ | ⟨g, cap, cur, rfl, hb, hg, hnc, hcm, hcs, ht⟩
  · have hl0 : l = [] := List.length_eq_zero_iff.1 hn
    subst hl0
    have hk0 : k = 0 := by simpa using hk
    subst hk0
    go_enter Tryz.func93, Tryz.ntmps93
    go_wp2
    go_ret
    exact ⟨_, rfl, World.ownsRow_nil _ _ _ _, Below.refl _ _⟩
  · have hki : (0 : Int) ≤ (k : Int) := by omega
    have hkc : (k : Int) ≤ (cap : Int) := by omega
    have hnews : ∀ j u, (byteCells (l.take k))[j]? = some u → W.cell? ((⟨g, 0, none⟩ : Addr).add j) = some u := by
      intro j u hu
      have hc := h.cells (g := g) rfl
      refine hc j u ?_
      unfold byteCells at hu ⊢
      rw [List.getElem?_map, List.getElem?_take] at hu
      split at hu
      · rw [List.getElem?_map]; exact hu
      · cases hu
    have h1 : ∀ u ∈ byteCells (l.take k), u.oneCell' = true := by
      intro u hu
      unfold byteCells at hu
      obtain ⟨b, _, rfl⟩ := List.mem_map.1 hu
      rfl
    have hbl : (byteCells (l.take k)).length = k * 1 := by unfold byteCells; rw [List.length_map, hlen, Nat.mul_one]
    have hk4 : k ≤ 4194304 := by omega
    clear h ht hg
    go_enter Tryz.func93, Tryz.ntmps93
    go_wp2_with (at_builtin; refine wpList_append_own_at _ rfl _ _ 106 rfl W.heap.size 5 i0 (.int .u8 0) 1 1 Tryz.underlying106 hi hz0 hz1 hz2 rfl (by decide) (.slice none 0 0) 0 [] rfl (World.ownsRow_nil _ _ _ _) ⟨g, 0, none⟩ k cap (byteCells (l.take k)) rfl hbl hnews h1 (by unfold maxLen; omega) (by omega) (Nat.le_refl _) ?_)
    intro v' w' hown hgrow hnil hlies
    go_wp2
    go_ret
    refine ⟨_, rfl, ?_, ⟨hgrow.os, hgrow.tape, hgrow.output, hgrow.size, fun i hi => hgrow.block i hi (by intro e; cases e)⟩⟩
    rw [hlen]
    have e : 0 + k = k := Nat.zero_add k
    simpa using hown
end Go.Proofs.YtjnphajkoopkgaaGreatDoor.Dk
/- A file made shorter. No condition. -/
namespace Go.Proofs.YtjnphajkoopkgaaGreatDoor.Dk
open Go.RowKit Go.Maps Go.ChangeMaps Go.WideMaps
set_option linter.unusedVariables false
attribute [local go_sem ↓] Go.wp_at_zero Go.wp_at_succ
/-- A file of its first k bytes. -/
def shortF (f : DF) (k : Nat) (v : Value) : DF := ⟨f.name, f.blk, v, f.bytes.take k, min f.safe k⟩
def shortD (d : DS) (f : DF) (k : Nat) (v : Value) : DS := { d with used := d.used - ((f.bytes.length : Int) - (k : Int)), F := repl f (shortF f k v) d.F }
theorem own_base {w : World} {base base' : Nat} {e : TypeId} {size : Nat} {v : Value} {n : Nat} {xs : List Value} (h : w.ownsRow base e size v n xs) (hb : base' ≤ base) : w.ownsRow base' e size v n xs := by
  refine ⟨h.1, ?_⟩
  rcases h.2 with h0 | ⟨g, cap, cur, h1, h2, h3⟩
  · exact .inl h0
  · exact .inr ⟨g, cap, cur, h1, Nat.le_trans hb h2, h3⟩
theorem short_rep {W V w1 : World} {p : Nat} {d : DS} (h : Rep W p d) {f : DF} (hf : f ∈ d.F) {k : Nat} (hk : k ≤ f.bytes.length) (hV : V = (W.setCell ⟨p, 1, none⟩ (.int .i64 (d.used - ((f.bytes.length : Int) - (k : Int))))).drew) {v' : Value} (hb : Below V.heap.size V w1) (hown : w1.ownsRow V.heap.size 5 1 v' (f.bytes.take k).length (byteCells (f.bytes.take k))) :
    Rep ((w1.setCell ⟨f.blk, 0, none⟩ v').setCell ⟨f.blk, 1, none⟩ (.int .i64 ((min f.safe k : Nat) : Int))) p (shortD d f k v') ∧ Off (fun j => j = p ∨ j = f.blk) W ((w1.setCell ⟨f.blk, 0, none⟩ v').setCell ⟨f.blk, 1, none⟩ (.int .i64 ((min f.safe k : Nat) : Int))) ∧
      ∀ j, Foot p (shortD d f k v') j → Foot p d j ∨ W.heap.size ≤ j := by
  have fi := h.files f hf
  obtain ⟨a1, a2⟩ := h.apart
  have hne := (a2 f hf).1
  have hsz : V.heap.size = W.heap.size := by rw [hV]; simp [World.setCell]
  have oV : Off (fun j => j = p) W V := by rw [hV]; exact (Off.one W ⟨p, 1, none⟩ _).drew
  have bV : Box V p 68 (dkC { d with used := d.used - ((f.bytes.length : Int) - (k : Int)) }) := by rw [hV]; exact (h.box.set 1 _).drew
  have gV : Box V f.blk 108 #[f.v, .int .i64 (f.safe : Int)] := fi.box.off oV hne
  have g1 := bV.later hb
  have g2 := gV.later hb
  have m1 := own_ne hown g1 (by decide)
  have m2 := own_ne hown g2 (by decide)
  have hnew : ∀ j, v'.ownBlock = some j → W.heap.size ≤ j := fun j hj => by
    rcases hown.2 with ⟨h1, _⟩ | ⟨g, cap, cur, h1, h2, _⟩
    · rw [h1] at hj; cases hj
    · rw [h1] at hj
      have : g = j := by simpa [Value.ownBlock] using hj
      omega
  have ho : Off (fun j => j = p ∨ j = f.blk) W ((w1.setCell ⟨f.blk, 0, none⟩ v').setCell ⟨f.blk, 1, none⟩ (.int .i64 ((min f.safe k : Nat) : Int))) :=
    ((((oV.mono fun j _ hj => .inl hj).later hb).set (.inl (.inr rfl)) _).set (.inl (.inr rfl)) _)
  have ht := total_repl (f' := shortF f k v') h.blks hf
  have hl2 : (shortF f k v').bytes.length = k := by show (f.bytes.take k).length = k; simp; omega
  rw [hl2] at ht
  have hu := h.used
  refine ⟨h.turn hf (f' := shortF f k v') rfl rfl rfl rfl ?_ (ho.mono fun j _ hj => ?_) ⟨?_, ?_, ?_, fi.name⟩ (fun j hj => .inr (hnew j hj)) h.room ⟨?_, ?_⟩ h.left, ho, ?_⟩
  · exact (g1.far (p := ⟨f.blk, 0, none⟩) (fun e => hne e.symm) v').far (p := ⟨f.blk, 1, none⟩) (fun e => hne e.symm) _
  · rcases hj with hj | hj
    · exact .inl hj
    · exact .inr (.inl hj)
  · exact (g2.set 0 v').set 1 (.int .i64 ((min f.safe k : Nat) : Int))
  · have q1 := own_off hown (Off.one w1 ⟨f.blk, 0, none⟩ v') m2
    have q2 := own_off q1 (Off.one _ ⟨f.blk, 1, none⟩ (.int .i64 ((min f.safe k : Nat) : Int))) m2
    exact own_base q2 (Nat.zero_le _)
  · show min f.safe k ≤ (f.bytes.take k).length
    have := fi.safe
    simp
    omega
  · show (total (repl f (shortF f k v') d.F) : Int) ≤ d.used - ((f.bytes.length : Int) - (k : Int))
    omega
  · show d.used - ((f.bytes.length : Int) - (k : Int)) ≤ d.room
    omega
  · intro j hj
    rcases hj with hj | hj | ⟨g, hg, hj⟩
    · exact .inl (.inl hj)
    · exact .inl (.inr (.inl hj))
    · have hg' : g ∈ repl f (shortF f k v') d.F := hg
      unfold repl at hg'
      obtain ⟨g0, hg0, rfl⟩ := List.mem_map.1 hg'
      split at hj
      · rcases hj with hj | hj
        · exact .inl (.inr (.inr ⟨f, hf, .inl hj⟩))
        · exact .inr (hnew j hj)
      · exact .inl (.inr (.inr ⟨g0, hg0, hj⟩))
set_option maxHeartbeats 2000000 in
set_option maxRecDepth 100000 in
theorem shorten_c (p : Nat) (d : DS) (W : World) (h : Rep W p d) (f : DF) (hf : f ∈ d.F) (k : Nat) (hk : k ≤ f.bytes.length) :
    Calls Tryz.prog 54 #[dp p, dp f.blk, .int .i64 (k : Int)] W (Gives W p d (.tuple #[]) fun d' => ∃ v, d' = shortD d f k v) := by
  obtain ⟨y0, y1, y2, y3, y4⟩ := h.at
  have yf := h.box.frozen 1
  have fi := h.files f hf
  have x0 : W.cell? ⟨f.blk, 0, none⟩ = some f.v := (fi.box.cell 0).trans rfl
  obtain ⟨ao, cap, hv⟩ : ∃ ao cap, f.v = .slice ao f.bytes.length cap := by
    rcases fi.row.2 with ⟨hv, h0⟩ | ⟨g, cap, cur, hv, _⟩
    · exact ⟨_, _, by rw [h0]; exact hv⟩
    · exact ⟨_, _, hv⟩
  rw [hv] at x0
  have hu := h.used
  have hr := h.room
  have hge := total_ge hf
  have hw1 : IntKind.i64.wrap ((f.bytes.length : Int) - (k : Int)) = (f.bytes.length : Int) - (k : Int) := IntWalk.i64_in _ (by omega)
  have hw2 : IntKind.i64.wrap (d.used - ((f.bytes.length : Int) - (k : Int))) = d.used - ((f.bytes.length : Int) - (k : Int)) := IntWalk.i64_in _ (by omega)
  have oV : Off (fun j => j = p) W (W.setCell ⟨p, 1, none⟩ (.int .i64 (d.used - ((f.bytes.length : Int) - (k : Int))))).drew := (Off.one W ⟨p, 1, none⟩ _).drew
  have gV : Box (W.setCell ⟨p, 1, none⟩ (.int .i64 (d.used - ((f.bytes.length : Int) - (k : Int))))).drew f.blk 108 #[.slice ao f.bytes.length cap, .int .i64 (f.safe : Int)] := by
    have := fi.box.off oV (h.apart.2 f hf).1
    rw [hv] at this
    exact this
  have rV := own_off fi.row oV (h.apart.2 f hf).2
  have hpc := piece_c _ f.v f.bytes k rV hk (by omega)
  rw [hv] at hpc
  clear rV oV
  have HU := Lib.hid hu
  have HR := Lib.hid hr
  have HG := Lib.hid hge
  clear hu hr hge
  unfold dp at *
  go_enter Tryz.func54, Tryz.ntmps54
  go_wp2_with fail
  go_region_with (fail)
  all_goals
    go_wp2_with fail
    (with_reducible refine hpc.mono ?_)
    rintro en w1 ⟨v', rfl, hown, hb⟩
    have g2 := gV.later hb
    have c0 : w1.cell? ⟨f.blk, 0, none⟩ = some (.slice ao f.bytes.length cap) := (g2.cell 0).trans rfl
    have c1 : w1.cell? ⟨f.blk, 1, none⟩ = some (.int .i64 (f.safe : Int)) := (g2.cell 1).trans rfl
    have d0 : w1.frozen? ⟨f.blk, 0, none⟩ = false := g2.frozen 0
    have d1 : w1.frozen? ⟨f.blk, 1, none⟩ = false := g2.frozen 1
    obtain ⟨ao', n', cap', rfl⟩ : ∃ ao n' cap, v' = .slice ao n' cap := by
      rcases hown.2 with ⟨hv, _⟩ | ⟨g, cap, cur, hv, _⟩
      · exact ⟨_, _, _, hv⟩
      · exact ⟨_, _, _, hv⟩
    obtain ⟨R3, o3, f3⟩ := short_rep h hf hk rfl hb hown
    have R := Lib.hid R3
    have O3 := Lib.hid o3
    have F3 := Lib.hid f3
    clear R3 o3 f3 hown
    have hmin : min (f.safe : Int) (k : Int) = ((min f.safe k : Nat) : Int) := by omega
    go_wp2
    go_end0
    refine ⟨rfl, _, R.out, ⟨_, rfl⟩, O3.out.mono fun j _ hj => ?_, F3.out⟩
    rcases hj with hj | hj
    · exact .inl hj
    · exact .inr (.inr ⟨f, hf, .inl hj⟩)
end Go.Proofs.YtjnphajkoopkgaaGreatDoor.Dk
/- A file let go. No condition. -/
namespace Go.Proofs.YtjnphajkoopkgaaGreatDoor.Dk
open Go.RowKit Go.Maps Go.ChangeMaps Go.WideMaps Go.MapKept
set_option linter.unusedVariables false
attribute [local go_sem ↓] Go.wp_at_zero Go.wp_at_succ
/-- Some files are gone, and the disk's numbers have turned. -/
theorem Rep.sub {w w' : World} {p : Nat} {d d' : DS} (h : Rep w p d) (hF : d'.F.Sublist d.F) (hm : d'.map = d.map) (hbox : Box w' p 68 (dkC d')) (ho : Off (fun k => k = p ∨ d.map = some k) w w')
    (hown : ∀ m, d.map = some m → ∃ n, w'.ownsMap Tryz.prog 9 fileTok m n (mapD d'.F))
    (hr : 1 ≤ d'.room ∧ d'.room ≤ 4194304) (hu : (total d'.F : Int) ≤ d'.used ∧ d'.used ≤ d'.room) (hl : 0 ≤ d'.left ∧ d'.left ≤ 9223372036854775807) : Rep w' p d' := by
  obtain ⟨a1, a2⟩ := h.apart
  refine ⟨hbox, ?_, fun f hf => ?_, h.blks.sublist hF, h.rows.sublist hF, h.sorted.sublist hF, hr, hu, hl⟩
  · rw [hm]
    rcases h.map with ⟨h1, h2⟩ | ⟨m, h1, h2⟩
    · refine .inl ⟨h1, ?_⟩
      rw [h2] at hF
      exact List.sublist_nil.1 hF
    · obtain ⟨n, hn⟩ := hown m h1
      exact .inr ⟨m, h1, map_tight hn⟩
  · have hf' := hF.subset hf
    refine (h.files f hf').off ho (fun hk => ?_) (fun k hk hk2 => ?_)
    · rcases hk with hk | hk
      · exact (a2 f hf').1 hk
      · exact (h.mapapart hk hf').1 rfl
    · rcases hk2 with hk2 | hk2
      · exact (a2 f hf').2 k hk hk2
      · exact (h.mapapart hk2 hf').2 k hk rfl
end Go.Proofs.YtjnphajkoopkgaaGreatDoor.Dk
/- Drop; refusals of Drop and Sync. No condition. -/
namespace Go.Proofs.YtjnphajkoopkgaaGreatDoor.Dk
open Go.RowKit Go.Maps Go.ChangeMaps Go.WideMaps
set_option linter.unusedVariables false
theorem sync_none (p : Nat) (d : DS) (n : ByteArray) (hn : n.size ≤ maxLen) (W : World) (h : Rep W p d) (hd : upB d = true) (hf : fileOf d.F n.data.toList = none) : Calls Tryz.prog 49 #[dp p, .string n] W (Tells W (.int .i64 6)) := by
  have hu := find_none p d n hn W h hd hf
  clear h hd hf
  unfold dp at *
  go_enter Tryz.func49, Tryz.ntmps49
  go_wp2_with fail
  (with_reducible refine hu.mono ?_)
  rintro en w1 ⟨rfl, rfl⟩
  go_wp2
  go_ret
  exact ⟨rfl, rfl⟩
theorem sync_down (p : Nat) (d : DS) (n : ByteArray) (W : World) (h : Rep W p d) (hd : upB d = false) : Calls Tryz.prog 49 #[dp p, .string n] W (Tells W (.int .i64 7)) := by
  have hu := find_down p d n W h hd
  clear h hd
  unfold dp at *
  go_enter Tryz.func49, Tryz.ntmps49
  go_wp2_with fail
  (with_reducible refine hu.mono ?_)
  rintro en w1 ⟨rfl, rfl⟩
  go_wp2
  go_ret
  exact ⟨rfl, rfl⟩
theorem sync_nil (n : ByteArray) (W : World) : Calls Tryz.prog 49 #[.pointer none, .string n] W (Tells W (.int .i64 1)) := by
  have hu := find_nil n W
  go_enter Tryz.func49, Tryz.ntmps49
  go_wp2_with fail
  (with_reducible refine hu.mono ?_)
  rintro en w1 ⟨rfl, rfl⟩
  go_wp2
  go_ret
  exact ⟨rfl, rfl⟩
end Go.Proofs.YtjnphajkoopkgaaGreatDoor.Dk
/- Cut and Fuse. No condition. -/
namespace Go.Proofs.YtjnphajkoopkgaaGreatDoor.Dk
open Go.RowKit Go.Maps Go.ChangeMaps Go.WideMaps
set_option linter.unusedVariables false
set_option maxHeartbeats 2000000 in
set_option maxRecDepth 100000 in
theorem cut_some (p : Nat) (d : DS) (n : ByteArray) (hn : n.size ≤ maxLen) (W : World) (h : Rep W p d) (hd : upB d = true) (f : DF) (hf : fileOf d.F n.data.toList = some f) (k : Nat) (hk : k ≤ f.bytes.length) :
    Calls Tryz.prog 31 #[dp p, .string n, .int .i64 (k : Int)] W (Gives W p d (.int .i64 0) fun d' => ∃ v, d' = chg (shortD d f k v)) := by
  have hu := find_some p d n hn W h hd f hf
  have hmem := (file_in hf).1
  have fi := h.files f hmem
  have x0 : W.cell? ⟨f.blk, 0, none⟩ = some f.v := (fi.box.cell 0).trans rfl
  obtain ⟨ao, cap, hv⟩ : ∃ ao cap, f.v = .slice ao f.bytes.length cap := by
    rcases fi.row.2 with ⟨hv, h0⟩ | ⟨g, cap, cur, hv, _⟩
    · exact ⟨_, _, by rw [h0]; exact hv⟩
    · exact ⟨_, _, hv⟩
  rw [hv] at x0
  have hlo := shorten_c p d W h f hmem k hk
  have hk0 : (0 : Int) ≤ (k : Int) := by omega
  have hk1 : (k : Int) ≤ (f.bytes.length : Int) := by omega
  unfold dp at *
  go_enter Tryz.func31, Tryz.ntmps31
  go_wp2_with fail
  (with_reducible refine hu.mono ?_)
  rintro en w1 ⟨rfl, hw⟩
  have hw' := hw.symm
  subst hw'
  go_wp2_with fail
  (with_reducible refine hlo.mono ?_)
  rintro en w2 ⟨rfl, d2, R2, ⟨v, rfl⟩, o2, f2⟩
  have hch := changed_c p _ _ R2 hd
  unfold dp at hch
  go_wp2_with fail
  (with_reducible refine hch.mono ?_)
  rintro en w4 ⟨rfl, R4, o4⟩
  go_wp2
  go_ret
  exact ⟨rfl, _, R4, ⟨_, rfl⟩, o2.trans o4 fun k _ hk => .inl hk, fun k hk => f2 k hk⟩
theorem cut_bad (p : Nat) (d : DS) (n : ByteArray) (hn : n.size ≤ maxLen) (W : World) (h : Rep W p d) (hd : upB d = true) (f : DF) (hf : fileOf d.F n.data.toList = some f) (k : Int) (hk : k < 0 ∨ (f.bytes.length : Int) < k) :
    Calls Tryz.prog 31 #[dp p, .string n, .int .i64 k] W (Tells W (.int .i64 1)) := by
  have hu := find_some p d n hn W h hd f hf
  have hmem := (file_in hf).1
  have fi := h.files f hmem
  have x0 : W.cell? ⟨f.blk, 0, none⟩ = some f.v := (fi.box.cell 0).trans rfl
  obtain ⟨ao, cap, hv⟩ : ∃ ao cap, f.v = .slice ao f.bytes.length cap := by
    rcases fi.row.2 with ⟨hv, h0⟩ | ⟨g, cap, cur, hv, _⟩
    · exact ⟨_, _, by rw [h0]; exact hv⟩
    · exact ⟨_, _, hv⟩
  rw [hv] at x0
  clear h hd hf fi hv
  unfold dp at *
  by_cases hk0 : k < 0
  · go_enter Tryz.func31, Tryz.ntmps31
    go_wp2_with fail
    (with_reducible refine hu.mono ?_)
    rintro en w1 ⟨rfl, hw⟩
    have hw' := hw.symm
    subst hw'
    go_wp2
    go_ret
    exact ⟨rfl, rfl⟩
  · have hk1 : (f.bytes.length : Int) < k := by omega
    have hk2 : (0 : Int) ≤ k := by omega
    clear hk
    go_enter Tryz.func31, Tryz.ntmps31
    go_wp2_with fail
    (with_reducible refine hu.mono ?_)
    rintro en w1 ⟨rfl, hw⟩
    have hw' := hw.symm
    subst hw'
    go_wp2
    go_ret
    exact ⟨rfl, rfl⟩
end Go.Proofs.YtjnphajkoopkgaaGreatDoor.Dk
/- Fuse. No condition. -/
namespace Go.Proofs.YtjnphajkoopkgaaGreatDoor.Dk
open Go.RowKit Go.Maps Go.ChangeMaps Go.WideMaps
set_option linter.unusedVariables false
def fuseD (d : DS) (n : Int) : DS := { d with fused := decide (0 ≤ n), left := max n 0 }
theorem fuse_rep {W : World} {p : Nat} {d : DS} (h : Rep W p d) (n : Int) (hn : n ≤ 9223372036854775807) :
    Rep ((W.setCell ⟨p, 3, none⟩ (.bool (decide (0 ≤ n)))).setCell ⟨p, 4, none⟩ (.int .i64 (max n 0))) p (fuseD d n) ∧ Off (· = p) W ((W.setCell ⟨p, 3, none⟩ (.bool (decide (0 ≤ n)))).setCell ⟨p, 4, none⟩ (.int .i64 (max n 0))) := by
  have ho : Off (· = p) W ((W.setCell ⟨p, 3, none⟩ (.bool (decide (0 ≤ n)))).setCell ⟨p, 4, none⟩ (.int .i64 (max n 0))) := ((Off.refl (· = p) W).set (p := ⟨p, 3, none⟩) (.inl rfl) _).set (p := ⟨p, 4, none⟩) (.inl rfl) _
  exact ⟨h.scal ((h.box.set 3 (.bool (decide (0 ≤ n)))).set 4 (.int .i64 (max n 0))) ho rfl rfl h.room h.used (by show 0 ≤ max n 0 ∧ max n 0 ≤ _; omega), ho⟩
set_option maxHeartbeats 2000000 in
set_option maxRecDepth 100000 in
theorem fuse_c (p : Nat) (d : DS) (W : World) (h : Rep W p d) (n : Int) (h0 : -1 ≤ n) (h1 : n ≤ 9223372036854775807) :
    Calls Tryz.prog 35 #[dp p, .int .i64 n] W (Turns W p (fuseD d n) (.int .i64 0)) := by
  obtain ⟨y0, y1, y2, y3, y4⟩ := h.at
  have z3 := h.box.frozen 3
  have z4 := h.box.frozen 4
  obtain ⟨R3, o3⟩ := fuse_rep h n h1
  have R := Lib.hid R3
  have O := Lib.hid o3
  clear h R3 o3
  unfold dp
  go_enter Tryz.func35, Tryz.ntmps35
  go_wp2
  go_ret
  exact ⟨rfl, R.out, O.out⟩
theorem fuse_low (p : Nat) (W : World) (n : Int) (h0 : n < -1) : Calls Tryz.prog 35 #[dp p, .int .i64 n] W (Tells W (.int .i64 1)) := by
  unfold dp
  go_enter Tryz.func35, Tryz.ntmps35
  go_wp2
  go_ret
  exact ⟨rfl, rfl⟩
end Go.Proofs.YtjnphajkoopkgaaGreatDoor.Dk
/- Append with no room. No condition. -/
namespace Go.Proofs.YtjnphajkoopkgaaGreatDoor.Dk
open Go.RowKit Go.Maps Go.ChangeMaps Go.WideMaps
set_option linter.unusedVariables false
set_option maxHeartbeats 2000000 in
set_option maxRecDepth 100000 in
theorem app_full (p : Nat) (d : DS) (W : World) (n s : ByteArray) (hs : s.size ≤ 281474976710656) (h : Rep W p d) (hu : upB d = true) (hnm : nameB n = true) (hsz : d.room - d.used < (s.size : Int)) :
    Calls Tryz.prog 37 #[dp p, .string n, .string s] W (Good W (.int .i64 5)) := by
  have hn40 : n.size ≤ 40 := by unfold nameB at hnm; simp at hnm; omega
  have hr0 := ready_c p d W h
  unfold rdyI at hr0
  rw [hu, if_pos rfl] at hr0
  have hn0 := nameable_c n (by omega) W
  rw [hnm] at hn0
  obtain ⟨y0, y1, y2, y3, y4⟩ := h.at
  have hu0 : 0 ≤ d.used := by have := h.used; omega
  have hu1 : d.used ≤ 4194304 := by have := h.used; have := h.room; omega
  have hwr : IntKind.i64.wrap (d.room - d.used) = d.room - d.used := IntWalk.i64_in _ (by have := h.room; have := h.used; omega)
  clear h hu hnm
  unfold dp at *
  go_enter Tryz.func37, Tryz.ntmps37
  go_wp2_with fail
  (with_reducible refine hr0.mono ?_)
  rintro en w1 ⟨rfl, hw⟩
  have hw' := hw.symm
  subst hw'
  clear hw
  go_wp2_with fail
  (with_reducible refine hn0.mono ?_)
  rintro en w2 ⟨rfl, hw⟩
  have hw' := hw.symm
  subst hw'
  clear hw
  go_wp2_with fail
  go_region_held3 (fun w => w.cell? ⟨p, 0, none⟩ = some (.int .i64 d.room) ∧ w.cell? ⟨p, 1, none⟩ = some (.int .i64 d.used)) (exact ⟨y0, y1⟩) (fail)
  go_wp2
  go_ret
  exact ⟨rfl, (Below.refl _ _).drew⟩
end Go.Proofs.YtjnphajkoopkgaaGreatDoor.Dk
/- A disk as the document has it: names, bytes, how many are safe. Plain words on lists. No condition. -/
namespace Go.Proofs.YtjnphajkoopkgaaGreatDoor.Dk
open Go.RowKit Go.Maps Go.ChangeMaps Go.WideMaps
set_option linter.unusedVariables false
/-- A file: its name, its bytes, how many are safe. -/
abbrev AF := List UInt8 × List UInt8 × Nat
structure Ab where
  room : Int
  fused : Bool
  left : Int
  L : List AF
def absF (f : DF) : AF := (f.name, f.bytes, f.safe)
def absL (F : List DF) : List AF := F.map absF
def totL (L : List AF) : Nat := (L.map fun x => x.2.1.length).sum
def findL (L : List AF) (n : List UInt8) : Option AF := L.find? fun x => x.1 == n
def setL (L : List AF) (n : List UInt8) (y : AF) : List AF := L.map fun x => if x.1 = n then y else x
def insL (y : AF) : List AF → List AF
  | [] => [y]
  | x :: r => if bytesBefore y.1 x.1 then y :: x :: r else x :: insL y r
theorem abs_total (F : List DF) : totL (absL F) = total F := by unfold totL absL total; rw [List.map_map]; rfl
theorem abs_find (F : List DF) (n : List UInt8) : findL (absL F) n = (fileOf F n).map absF := by
  unfold findL absL fileOf
  rw [List.find?_map]
  rfl
theorem name_blk {F : List DF} (hs : F.Pairwise fun f g => bytesBefore f.name g.name = true) {f g : DF} (hf : f ∈ F) (hg : g ∈ F) (e : g.name = f.name) : g = f := by
  have h1 := fileOf_mem hs hf
  have h2 := fileOf_mem hs hg
  rw [e, h1] at h2
  injection h2 with h2
  exact h2.symm
theorem abs_repl {F : List DF} (hs : F.Pairwise fun f g => bytesBefore f.name g.name = true) (hb : F.Pairwise fun f g => f.blk ≠ g.blk) {f f' : DF} (hf : f ∈ F) : absL (repl f f' F) = setL (absL F) f.name (absF f') := by
  unfold absL repl setL
  rw [List.map_map, List.map_map]
  refine List.map_congr_left fun g hg => ?_
  show absF (if g.blk = f.blk then f' else g) = if g.name = f.name then absF f' else absF g
  by_cases e : g.blk = f.blk
  · have := same_blk hb hg hf e
    subst this
    simp
  · have hn : g.name ≠ f.name := fun q => e (by rw [name_blk hs hf hg q])
    rw [if_neg e, if_neg hn]
theorem abs_repl_new {F : List DF} {f f' : DF} (hb : ∀ g ∈ F, g.blk ≠ f.blk) (hn : f.name = f'.name) : absL (repl f f' (insF f F)) = insL (absF f') (absL F) := by
  induction F with
  | nil => unfold repl insF absL insL; simp
  | cons y r ih =>
    have ih := ih fun g hg => hb g (by simp [hg])
    have hy := hb y (by simp)
    have hr : repl f f' r = r := repl_none fun g hg => hb g (by simp [hg])
    unfold insF
    show _ = if bytesBefore f'.name y.name then absF f' :: absF y :: absL r else absF y :: insL (absF f') (absL r)
    rw [← hn]
    split
    · unfold repl at hr ⊢
      rw [List.map_cons, List.map_cons, if_pos rfl, if_neg hy, hr]
      rfl
    · rw [← ih]
      unfold repl
      rw [List.map_cons, if_neg hy]
      rfl
/-- The disk that stands at a place: as the document has it; its blocks are of S. -/
def Is (w : World) (p : Nat) (a : Ab) (S : Nat → Prop) : Prop :=
  ∃ d, Rep w p d ∧ d.room = a.room ∧ d.fused = a.fused ∧ d.left = a.left ∧ absL d.F = a.L ∧ d.used = (total d.F : Int) ∧ ∀ k, Foot p d k → S k
/-- What a call leaves. -/
def Does (W : World) (p : Nat) (S : Nat → Prop) (v : Value) (a : Ab) (e : Ending) (w' : World) : Prop :=
  e = .returned v ∧ Is w' p a (fun k => S k ∨ W.heap.size ≤ k) ∧ Off S W w'
theorem foot_lt {w : World} {p : Nat} {d : DS} (h : Rep w p d) {k : Nat} (hk : Foot p d k) : k < w.heap.size := by
  rcases hk with rfl | hk | ⟨f, hf, hk⟩
  · exact h.box.lt
  · rcases h.map with ⟨h1, _⟩ | ⟨m, h1, h2⟩
    · rw [h1] at hk; cases hk
    · have : m = k := by rw [h1] at hk; injection hk
      subst this
      exact h2.lt
  · rcases hk with rfl | hk
    · exact (h.files f hf).box.lt
    · rcases (h.files f hf).row.2 with ⟨h1, _⟩ | ⟨g, cap, cur, h1, _, h3, _⟩
      · rw [h1] at hk; cases hk
      · rw [h1] at hk
        have : g = k := by simpa [Value.ownBlock] using hk
        subst this
        exact lt_of_there h3
theorem Is.off {w w' : World} {p : Nat} {a : Ab} {S T : Nat → Prop} (h : Is w p a S) (ho : Off T w w') (hST : ∀ k, k < w.heap.size → S k → ¬ T k) : Is w' p a S := by
  obtain ⟨d, hR, h1, h2, h3, h4, h5, h6⟩ := h
  exact ⟨d, hR.off ho fun k hk => hST k (foot_lt hR hk) (h6 k hk), h1, h2, h3, h4, h5, h6⟩
theorem Is.mono {w : World} {p : Nat} {a : Ab} {S T : Nat → Prop} (h : Is w p a S) (hST : ∀ k, S k → T k) : Is w p a T := by
  obtain ⟨d, hR, h1, h2, h3, h4, h5, h6⟩ := h
  exact ⟨d, hR, h1, h2, h3, h4, h5, fun k hk => hST k (h6 k hk)⟩
theorem Is.later {w w' : World} {p : Nat} {a : Ab} {S : Nat → Prop} (h : Is w p a S) (hb : Below w.heap.size w w') : Is w' p a S := h.off (Off.of_below (fun _ => False) hb) (fun _ _ _ x => x)
theorem does_tells {W : World} {p : Nat} {a : Ab} {S : Nat → Prop} (h : Is W p a S) {v : Value} {e : Ending} {w' : World} (ht : Tells W v e w') : Does W p S v a e w' := by
  obtain ⟨rfl, rfl⟩ := ht
  exact ⟨rfl, h.mono fun k hk => .inl hk, Off.refl _ _⟩
theorem does_good {W : World} {p : Nat} {a : Ab} {S : Nat → Prop} (h : Is W p a S) {v : Value} {e : Ending} {w' : World} (ht : Good W v e w') : Does W p S v a e w' := by
  obtain ⟨rfl, hb⟩ := ht
  exact ⟨rfl, (h.later hb).mono fun k hk => .inl hk, Off.of_below _ hb⟩
def upA (a : Ab) : Bool := !a.fused || decide (0 < a.left)
def chgA (a : Ab) : Ab := { a with left := if a.fused = true then a.left - 1 else a.left }
theorem setL_len (L : List AF) (n : List UInt8) (y : AF) : (setL L n y).length = L.length := by unfold setL; simp
theorem insL_len (y : AF) : ∀ L : List AF, (insL y L).length = L.length + 1
  | [] => rfl
  | x :: r => by
    unfold insL
    split
    · rfl
    · simp [insL_len y r]
/-- A way from what the low contract gives to what the document says. -/
theorem does_gives {W : World} {p : Nat} {d : DS} {S : Nat → Prop} {v : Value} {Q : DS → Prop} {e : Ending} {w' : World} {a' : Ab} (hS : ∀ k, Foot p d k → S k) (hg : Gives W p d v Q e w')
    (hq : ∀ d', Rep w' p d' → Q d' → d'.room = a'.room ∧ d'.fused = a'.fused ∧ d'.left = a'.left ∧ absL d'.F = a'.L ∧ d'.used = (total d'.F : Int)) : Does W p S v a' e w' := by
  obtain ⟨rfl, d', hR, hQ, ho, hf⟩ := hg
  obtain ⟨h1, h2, h3, h4, h5⟩ := hq d' hR hQ
  refine ⟨rfl, ⟨d', hR, h1, h2, h3, h4, h5, fun k hk => ?_⟩, ho.mono fun k _ hk => hS k hk⟩
  rcases hf k hk with hk | hk
  · exact .inl (hS k hk)
  · exact .inr hk
/-- Append, as the document has it. -/
def appE (a : Ab) (n s : ByteArray) : Int :=
  if upA a then if nameB n then if a.room - (totL a.L : Int) < (s.size : Int) then 5 else 0 else 1 else 7
def appA (a : Ab) (n s : ByteArray) : Ab :=
  if appE a n s = 0 then
    { chgA a with L := match findL a.L n.data.toList with
                       | some x => setL a.L n.data.toList (n.data.toList, x.2.1 ++ s.data.toList, x.2.2)
                       | none => insL (n.data.toList, s.data.toList, 0) a.L }
  else a
theorem up_abs {d : DS} {a : Ab} (h2 : d.fused = a.fused) (h3 : d.left = a.left) : upA a = upB d := by unfold upA upB; rw [h2, h3]
theorem chg_left {d : DS} {a : Ab} (h2 : d.fused = a.fused) (h3 : d.left = a.left) : (chg d).left = (chgA a).left := by unfold chg chgA; simp only; rw [h2, h3]
theorem app_do (p : Nat) (a : Ab) (S : Nat → Prop) (W : World) (n s : ByteArray) (hn : n.size ≤ 140737488351232) (hs : s.size ≤ 281474976710656) (h : Is W p a S) (hlen : a.L.length ≤ 1000000) :
    Calls Tryz.prog 37 #[dp p, .string n, .string s] W (Does W p S (.int .i64 (appE a n s)) (appA a n s)) := by
  have hI := h
  obtain ⟨d, hR, h1, h2, h3, h4, h5, h6⟩ := h
  have hl : d.F.length ≤ 1000000 := by rw [← h4] at hlen; unfold absL at hlen; simpa using hlen
  have hu := up_abs h2 h3
  have htot : (totL a.L : Int) = d.used := by rw [← h4, abs_total, h5]
  cases hub : upB d with
  | false =>
    have e : appE a n s = 7 := by unfold appE; rw [hu, hub]; rfl
    rw [show appA a n s = a by unfold appA; rw [e]; rfl, e]
    exact (app_down p d n s W hR hub).mono fun _ _ ht => does_tells hI ht
  | true =>
    cases hnb : nameB n with
    | false =>
      have e : appE a n s = 1 := by unfold appE; rw [hu, hub, hnb]; rfl
      rw [show appA a n s = a by unfold appA; rw [e]; rfl, e]
      exact (app_name p d n s W hn hR hub hnb).mono fun _ _ ht => does_tells hI ht
    | true =>
      by_cases hsz : d.room - d.used < (s.size : Int)
      · have e : appE a n s = 5 := by unfold appE; rw [hu, hub, hnb, htot, ← h1]; simp [hsz]
        rw [show appA a n s = a by unfold appA; rw [e]; rfl, e]
        exact (app_full p d W n s hs hR hub hnb hsz).mono fun _ _ ht => does_good hI ht
      · have e : appE a n s = 0 := by unfold appE; rw [hu, hub, hnb, htot, ← h1]; simp [hsz]
        have ea : appA a n s = { chgA a with L := match findL a.L n.data.toList with
                       | some x => setL a.L n.data.toList (n.data.toList, x.2.1 ++ s.data.toList, x.2.2)
                       | none => insL (n.data.toList, s.data.toList, 0) a.L } := by unfold appA; rw [if_pos e]
        rw [ea, e]
        have hsz' : (s.size : Int) ≤ d.room - d.used := by omega
        have hcl := chg_left h2 h3
        have hff := abs_find d.F n.data.toList
        rw [h4] at hff
        cases hf : fileOf d.F n.data.toList with
        | none =>
          rw [hf] at hff
          simp only [hff, Option.map_none]
          refine (app_new p d W n s hl hR hub hnb hsz' hf).mono fun _ _ hg => does_gives h6 hg ?_
          rintro d' hR' ⟨q1, q2, q3, q4, f, f', q5, q6, q7, q8, q9, q10⟩
          have hab : absL d'.F = insL (n.data.toList, s.data.toList, 0) a.L := by
            rw [q5, abs_repl_new q6 (by rw [q7, q8]), h4, show absF f' = (n.data.toList, s.data.toList, 0) by unfold absF; rw [q8, q9, q10]]
          refine ⟨q1.trans h1, q2.trans h2, q3.trans hcl, hab, ?_⟩
          have ht : total d'.F = total d.F + s.size := by
            have e1 : ∀ (y : AF) (L : List AF), totL (insL y L) = totL L + y.2.1.length := by
              intro y L
              induction L with
              | nil => simp [totL, insL]
              | cons x r ih =>
                unfold insL
                split
                · simp only [totL, List.map_cons, List.sum_cons]; omega
                · simp only [totL, List.map_cons, List.sum_cons] at ih ⊢; omega
            rw [← abs_total, hab, e1, ← h4, abs_total]
            rfl
          rw [q4, h5, ht]
          omega
        | some f =>
          rw [hf] at hff
          simp only [hff, Option.map_some]
          obtain ⟨hf1, hf2⟩ := file_in hf
          refine (app_has p d W n s f hR hub hnb hsz' hf).mono fun _ _ hg => does_gives h6 hg ?_
          rintro d' hR' ⟨q1, q2, q3, q4, f', q5, q6, q7, q8⟩
          refine ⟨q1.trans h1, q2.trans h2, q3.trans hcl, ?_, ?_⟩
          · rw [q5, abs_repl hR.sorted hR.blks hf1, h4, hf2]
            unfold absF
            rw [q6, q7, q8, hf2]
          · have ht := total_repl (f' := f') hR.blks hf1
            have e1 : f'.bytes.length = f.bytes.length + s.size := by rw [q7, List.length_append]; rfl
            rw [q5, q4, h5]
            omega
/-- Sync. -/
def seeE (a : Ab) (n : List UInt8) : Int := if upA a then if (findL a.L n).isSome then 0 else 6 else 7
def syncA (a : Ab) (n : List UInt8) : Ab :=
  match upA a, findL a.L n with
  | true, some x => { chgA a with L := setL a.L n (n, x.2.1, x.2.1.length) }
  | _, _ => a
theorem sync_do (p : Nat) (a : Ab) (S : Nat → Prop) (W : World) (n : ByteArray) (hn : n.size ≤ maxLen) (h : Is W p a S) :
    Calls Tryz.prog 49 #[dp p, .string n] W (Does W p S (.int .i64 (seeE a n.data.toList)) (syncA a n.data.toList)) := by
  have hI := h
  obtain ⟨d, hR, h1, h2, h3, h4, h5, h6⟩ := h
  have hu := up_abs h2 h3
  have hff := abs_find d.F n.data.toList
  rw [h4] at hff
  unfold seeE syncA
  rw [hu]
  cases hub : upB d with
  | false => exact (sync_down p d n W hR hub).mono fun _ _ ht => does_tells hI ht
  | true =>
    cases hf : fileOf d.F n.data.toList with
    | none =>
      rw [hf] at hff
      simp only [hff, Option.map_none]
      exact (sync_none p d n hn W hR hub hf).mono fun _ _ ht => does_tells hI ht
    | some f =>
      rw [hf] at hff
      simp only [hff, Option.map_some]
      obtain ⟨hf1, hf2⟩ := file_in hf
      refine (sync_some p d n hn W hR hub f hf).mono fun _ _ hg => does_gives h6 hg ?_
      rintro d' hR' rfl
      refine ⟨h1, h2, chg_left (d := syncD d f) h2 h3, ?_, ?_⟩
      · show absL (repl f (syncF f) d.F) = _
        rw [abs_repl hR.sorted hR.blks hf1, h4, hf2]
        unfold absF syncF
        rw [hf2]
      · have ht := total_repl (f' := syncF f) hR.blks hf1
        have e1 : (syncF f).bytes.length = f.bytes.length := rfl
        show d.used = (total (repl f (syncF f) d.F) : Int)
        omega
/-- Read. -/
def readV (a : Ab) (n : List UInt8) : List UInt8 := match upA a, findL a.L n with | true, some x => x.2.1 | _, _ => []
theorem read_do (p : Nat) (a : Ab) (S : Nat → Prop) (W : World) (n : ByteArray) (hn : n.size ≤ maxLen) (h : Is W p a S) :
    Calls Tryz.prog 28 #[dp p, .string n] W (Tells W (.tuple #[.string ⟨(readV a n.data.toList).toArray⟩, .int .i64 (seeE a n.data.toList)])) := by
  obtain ⟨d, hR, h1, h2, h3, h4, h5, h6⟩ := h
  have hu := up_abs h2 h3
  have hff := abs_find d.F n.data.toList
  rw [h4] at hff
  unfold seeE readV
  rw [hu]
  cases hub : upB d with
  | false => exact read_down p d n W hR hub
  | true =>
    cases hf : fileOf d.F n.data.toList with
    | none =>
      rw [hf] at hff
      simp only [hff, Option.map_none]
      exact read_none p d n hn W hR hub hf
    | some f =>
      rw [hf] at hff
      simp only [hff, Option.map_some]
      exact read_some p d n hn W hR hub f hf
/-- Used, Room, Up, Fuse. -/
theorem used_do (p : Nat) (a : Ab) (S : Nat → Prop) (W : World) (h : Is W p a S) : Calls Tryz.prog 26 #[dp p] W (Tells W (.int .i64 (totL a.L))) := by
  obtain ⟨d, hR, h1, h2, h3, h4, h5, h6⟩ := h
  have := used_c p d W hR
  rw [h5, ← abs_total, h4] at this
  exact this
def fuseA (a : Ab) (n : Int) : Ab := { a with fused := decide (0 ≤ n), left := max n 0 }
theorem fuse_do (p : Nat) (a : Ab) (S : Nat → Prop) (W : World) (h : Is W p a S) (n : Int) (h0 : -1 ≤ n) (hx : n ≤ 9223372036854775807) :
    Calls Tryz.prog 35 #[dp p, .int .i64 n] W (Does W p S (.int .i64 0) (fuseA a n)) := by
  obtain ⟨d, hR, h1, h2, h3, h4, h5, h6⟩ := h
  refine (fuse_c p d W hR n h0 hx).mono ?_
  rintro e w' ⟨rfl, R, o⟩
  exact ⟨rfl, ⟨_, R, h1, rfl, rfl, h4, h5, fun k hk => .inl (h6 k hk)⟩, o.mono fun k _ hk => h6 k (.inl hk)⟩
theorem new_do (n : Int) (h : 1 ≤ n ∧ n ≤ 4194304) (W : World) :
    Calls Tryz.prog 7 #[.int .i64 n] W (fun e w' => e = .returned (.tuple #[dp W.heap.size, .int .i64 0]) ∧ Is w' W.heap.size ⟨n, false, 0, []⟩ (fun k => W.heap.size ≤ k) ∧ Below W.heap.size W w') := by
  refine (new_good n h W).mono ?_
  rintro e w' ⟨rfl, rfl⟩
  refine ⟨rfl, ⟨newD n, new_rep n h W, rfl, rfl, rfl, rfl, rfl, fun k hk => ?_⟩, (Below.refl _ _).alloc (Nat.le_refl _) _⟩
  rcases hk with rfl | hk | ⟨f, hf, _⟩
  · exact Nat.le_refl _
  · cases hk
  · cases hf
end Go.Proofs.YtjnphajkoopkgaaGreatDoor.Dk
