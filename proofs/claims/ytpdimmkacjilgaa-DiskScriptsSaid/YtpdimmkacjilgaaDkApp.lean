/- Bytes put behind a file's: where the new row lies; one file of a disk turned. No condition. -/
import Derived.Test.YtpdimmkacjilgaaDkPut
import Derived.Lib.AppendStr
namespace Go.Proofs.Ytpdimmkacjilgaa
open Go.RowKit Go.Maps Go.ChangeMaps Go.WideMaps
set_option linter.unusedVariables false
section
variable {P : Program}
theorem append_lies (w : World) (base : Nat) (t u ty e : TypeId) (i : TypeInfo) (ht : P.underlying t = some (.slice e)) (hu : P.underlying u = some .string) (hi : P.info? e = some i) (hz : i.zero = some (.int .u8 0))
    (hsize : i.size = 1) (hby : i.bytes = 1) (v : Value) (n : Nat) (xs : List Value) (hown : w.ownsRow base e 1 v n xs) (s : ByteArray)
    (hbytes : n + s.size ≤ 140737488355328) (hbase : base ≤ w.heap.size) :
    ∃ v' w', (Builtin.append_ #[t, u] ty #[v, .string s]).run P w = .ok v' w' ∧ w'.ownsRow base e 1 v' (n + s.size) (xs ++ Go.Lib.strCells s) ∧ w.grownBy w' v.ownBlock ∧
      (v'.ownBlock = v.ownBlock ∨ v'.ownBlock = some w.heap.size) := by
  obtain ⟨v', w', h1, h2, h3, h4⟩ := Go.Lib.run_append_own_string (P := P) w base t u ty e i ht hu hi hz hsize hby v n xs hown s (by unfold maxLen; omega) hbytes hbase
  refine ⟨v', w', h1, h2, h3, ?_⟩
  have hxl : xs.length = n := by simpa using hown.1
  rcases hown.2 with ⟨hv, hn0⟩ | ⟨g, cap, cur, hv, hb, hg, hnc, hcm, hcs, htake⟩
  · subst hv
    by_cases hs : s.size = 0
    · left
      rw [h4.2 ⟨rfl, hs⟩]
    · right
      have hr := run_append_nil_string (P := P) (w := w) t u ty e i (.int .u8 0) ht hu hi hz s (by omega) (by omega) (by rw [hby]; omega)
      rw [hr] at h1
      injection h1 with h1 _
      rw [← h1]
      rfl
  · subst hv
    by_cases hroom : n + s.size ≤ cap
    · left
      have hr := Go.Lib.run_append_room_string (P := P) w t u ty e i ht hu hi hsize g n cap cur hg s hroom (by rw [hcs]; omega)
      rw [hr] at h1
      injection h1 with h1 _
      rw [← h1]
      rfl
    · right
      have holds : ∀ j u, xs[j]? = some u → w.cell? ((⟨g, 0, none⟩ : Addr).add j) = some u := hown.cells (g := g) rfl
      have hr := Go.Lib.run_append_grow_string (P := P) w t u ty e i (.int .u8 0) ht hu hi hz ⟨g, 0, none⟩ n cap xs (by rw [hsize]; simpa using hxl) holds s (by omega) (by omega) (by rw [hby]; exact growslice_fits (by omega) (by omega))
      rw [hr] at h1
      injection h1 with h1 _
      rw [← h1]
      rfl
end
theorem same_blk : ∀ {F : List DF}, F.Pairwise (fun f g => f.blk ≠ g.blk) → ∀ {f g : DF}, f ∈ F → g ∈ F → f.blk = g.blk → f = g
  | [], _, _, _, hf, _, _ => by cases hf
  | x :: F, hp, f, g, hf, hg, e => by
    obtain ⟨h1, h2⟩ := List.pairwise_cons.1 hp
    rcases List.mem_cons.1 hf with rfl | hf'
    · rcases List.mem_cons.1 hg with rfl | hg'
      · rfl
      · exact absurd e (h1 g hg')
    · rcases List.mem_cons.1 hg with rfl | hg'
      · exact absurd e.symm (h1 f hf')
      · exact same_blk h2 hf' hg' e
theorem rows_apart : ∀ {F : List DF}, F.Pairwise (fun f g => ∀ k, f.v.ownBlock = some k → g.v.ownBlock ≠ some k) → ∀ {f g : DF}, f ∈ F → g ∈ F → f ≠ g → ∀ k, f.v.ownBlock = some k → g.v.ownBlock ≠ some k
  | [], _, _, _, hf, _, _, _, _ => by cases hf
  | x :: F, hp, f, g, hf, hg, e, k, hk => by
    obtain ⟨h1, h2⟩ := List.pairwise_cons.1 hp
    rcases List.mem_cons.1 hf with rfl | hf'
    · rcases List.mem_cons.1 hg with rfl | hg'
      · exact absurd rfl e
      · exact h1 g hg' k hk
    · rcases List.mem_cons.1 hg with rfl | hg'
      · exact fun hk2 => h1 f hf' k hk2 hk
      · exact rows_apart h2 hf' hg' e k hk
/-- One file turned. -/
def repl (f f' : DF) (F : List DF) : List DF := F.map fun g => if g.blk = f.blk then f' else g
theorem repl_none {f f' : DF} : ∀ {F : List DF}, (∀ g ∈ F, g.blk ≠ f.blk) → repl f f' F = F
  | [], _ => rfl
  | x :: F, h => by
    unfold repl
    rw [List.map_cons, if_neg (h x (by simp))]
    exact congrArg _ (repl_none fun g hg => h g (by simp [hg]))
theorem total_repl {f f' : DF} : ∀ {F : List DF}, F.Pairwise (fun f g => f.blk ≠ g.blk) → f ∈ F → total (repl f f' F) + f.bytes.length = total F + f'.bytes.length
  | [], _, hf => by cases hf
  | x :: F, hp, hf => by
    obtain ⟨h1, h2⟩ := List.pairwise_cons.1 hp
    rcases List.mem_cons.1 hf with rfl | hf'
    · have e : repl f f' (f :: F) = f' :: F := by
        have := repl_none (f := f) (f' := f') (F := F) (fun g hg e => h1 g hg e.symm)
        unfold repl at this ⊢
        rw [List.map_cons, if_pos rfl, this]
      rw [e]
      simp only [total, List.map_cons, List.sum_cons]
      omega
    · have ih := total_repl (f' := f') h2 hf'
      have e : repl f f' (x :: F) = x :: repl f f' F := by
        unfold repl
        rw [List.map_cons, if_neg (h1 f hf')]
      rw [e]
      simp only [total, List.map_cons, List.sum_cons] at ih ⊢
      omega
/-- The map's block is none of a file's. -/
theorem Rep.mapapart {w : World} {p : Nat} {d : DS} (h : Rep w p d) {m : Nat} (hm : d.map = some m) {f : DF} (hf : f ∈ d.F) : m ≠ f.blk ∧ ∀ k, f.v.ownBlock = some k → k ≠ m := by
  have hmb : ∃ es clock, w.heap[m]? = some (.map es clock) := by
    rcases h.map with ⟨h1, _⟩ | ⟨m', h1, es, clock, hb, _⟩
    · rw [h1] at hm; cases hm
    · have : m' = m := by rw [h1] at hm; injection hm
      subst this
      exact ⟨es, clock, hb⟩
  obtain ⟨es, clock, hb⟩ := hmb
  refine ⟨fun e => ?_, fun k hk e => ?_⟩
  · have h1 := (h.files f hf).box
    unfold Box at h1
    rw [← e, hb] at h1
    cases h1
  · subst e
    rcases (h.files f hf).row.2 with ⟨h1, _⟩ | ⟨g, cap, cur, h1, _, h3, _⟩
    · rw [h1] at hk; cases hk
    · rw [h1] at hk
      have : g = k := by simpa [Value.ownBlock] using hk
      subst this
      rw [hb] at h3
      cases h3
theorem mapD_repl {F : List DF} {f f' : DF} (hp : F.Pairwise (fun f g => f.blk ≠ g.blk)) (hf : f ∈ F) (hblk : f'.blk = f.blk) (hname : f'.name = f.name) : mapD (repl f f' F) = mapD F := by
  unfold mapD repl
  rw [List.map_map]
  congr 1
  apply List.map_congr_left
  intro g hg
  show entry (if g.blk = f.blk then f' else g) = entry g
  split
  · rename_i e
    have := same_blk hp hg hf e
    subst this
    unfold entry
    rw [hblk, hname]
  · rfl
/-- One file's bytes and the disk's numbers have turned. -/
theorem Rep.turn {w w' : World} {p : Nat} {d d' : DS} (h : Rep w p d) {f f' : DF} (hf : f ∈ d.F) (hblk : f'.blk = f.blk) (hname : f'.name = f.name) (hm : d'.map = d.map) (hF : d'.F = repl f f' d.F)
    (hbox : Box w' p 59 (dkC d')) (ho : Off (fun k => k = p ∨ k = f.blk ∨ f.v.ownBlock = some k) w w') (hfi : FileIn w' f') (hown : ∀ k, f'.v.ownBlock = some k → f.v.ownBlock = some k ∨ w.heap.size ≤ k)
    (hr : 1 ≤ d'.room ∧ d'.room ≤ 4194304) (hu : (total d'.F : Int) ≤ d'.used ∧ d'.used ≤ d'.room) (hl : 0 ≤ d'.left ∧ d'.left ≤ 9223372036854775807) : Rep w' p d' := by
  obtain ⟨a1, a2⟩ := h.apart
  have hlen : (repl f f' d.F).length = d.F.length := by unfold repl; simp
  have hlt : ∀ g ∈ d.F, ∀ k, g.v.ownBlock = some k → k < w.heap.size := by
    intro g hg k hk
    rcases (h.files g hg).row.2 with ⟨h1, _⟩ | ⟨b, cap, cur, h1, _, h3, _⟩
    · rw [h1] at hk; cases hk
    · rw [h1] at hk
      have : b = k := by simpa [Value.ownBlock] using hk
      subst this
      exact lt_of_there h3
  refine ⟨hbox, ?_, ?_, ?_, ?_, ?_, hr, hu, hl⟩
  · rw [hm, hF, mapD_repl h.blks hf hblk hname, hlen]
    rcases h.map with ⟨h1, h2⟩ | ⟨m, h1, h2⟩
    · rw [h2] at hf; cases hf
    · obtain ⟨b1, b2⟩ := h.mapapart h1 hf
      exact .inr ⟨m, h1, map_off h2 ho (fun hk => by
        rcases hk with hk | hk | hk
        · exact a1 m h1 hk
        · exact b1 hk
        · exact b2 m hk rfl)⟩
  · intro g' hg'
    rw [hF] at hg'
    unfold repl at hg'
    obtain ⟨g, hg, rfl⟩ := List.mem_map.1 hg'
    split
    · exact hfi
    · rename_i hne
      have hgf : f ≠ g := fun e => hne (by rw [e])
      refine (h.files g hg).off ho (fun hk => ?_) (fun k hk hk2 => ?_)
      · rcases hk with hk | hk | hk
        · exact (a2 g hg).1 hk
        · exact hne hk
        · exact own_ne (h.files f hf).row (h.files g hg).box (by decide) _ hk rfl
      · rcases hk2 with hk2 | hk2 | hk2
        · exact (a2 g hg).2 k hk hk2
        · exact own_ne (h.files g hg).row (h.files f hf).box (by decide) _ hk hk2
        · exact rows_apart h.rows hf hg hgf k hk2 hk
  · rw [hF]
    unfold repl
    rw [List.pairwise_map]
    refine h.blks.imp_of_mem (fun {a b} ha hb hab => ?_)
    have e : ∀ g : DF, (if g.blk = f.blk then f' else g).blk = g.blk := fun g => by
      split
      · rename_i e; rw [hblk, e]
      · rfl
    rw [e, e]
    exact hab
  · rw [hF]
    unfold repl
    rw [List.pairwise_map]
    refine (h.blks.and h.rows).imp_of_mem (fun {a b} ha hb hab => ?_)
    obtain ⟨hab1, hab2⟩ := hab
    intro k
    split
    · rename_i ea
      have := same_blk h.blks ha hf ea
      subst this
      rw [if_neg (fun eb => hab1 eb.symm)]
      intro hk hk2
      rcases hown k hk with h1 | h1
      · exact hab2 k h1 hk2
      · have := hlt b hb k hk2; omega
    · rename_i ea
      split
      · rename_i eb
        have := same_blk h.blks hb hf eb
        subst this
        intro hk hk2
        rcases hown k hk2 with h1 | h1
        · exact hab2 k hk h1
        · have := hlt a ha k hk; omega
      · exact hab2 k
  · rw [hF]
    unfold repl
    rw [List.pairwise_map]
    refine h.sorted.imp_of_mem (fun {a b} ha hb hab => ?_)
    have e : ∀ g ∈ d.F, (if g.blk = f.blk then f' else g).name = g.name := fun g hg => by
      split
      · rename_i e
        have := same_blk h.blks hg hf e
        subst this
        exact hname
      · rfl
    rw [e a ha, e b hb]
    exact hab
end Go.Proofs.Ytpdimmkacjilgaa
