/- A file put into a disk, and what of a disk's words that keeps. No condition. -/
import Derived.Test.YtpdimmkacjilgaaDkApp2
namespace Go.Proofs.Ytpdimmkacjilgaa
open Go.RowKit Go.Maps Go.ChangeMaps Go.WideMaps
set_option linter.unusedVariables false
theorem insF_perm (f : DF) : ∀ F : List DF, (insF f F).Perm (f :: F)
  | [] => .refl _
  | y :: r => by
    unfold insF
    split
    · exact .refl _
    · exact (List.Perm.cons y (insF_perm f r)).trans (List.Perm.swap f y r)
theorem insF_len (f : DF) (F : List DF) : (insF f F).length = F.length + 1 := (insF_perm f F).length_eq
theorem insF_mem {f g : DF} {F : List DF} : g ∈ insF f F ↔ g = f ∨ g ∈ F := by rw [(insF_perm f F).mem_iff, List.mem_cons]
theorem total_ins (f : DF) : ∀ F : List DF, total (insF f F) = total F + f.bytes.length
  | [] => by simp [total, insF]
  | y :: r => by
    have ih := total_ins f r
    unfold insF
    split
    · simp only [total, List.map_cons, List.sum_cons]; omega
    · simp only [total, List.map_cons, List.sum_cons] at ih ⊢; omega
theorem bytes_cons {a b : UInt8} {r s : List UInt8} : bytesBefore (a :: r) (b :: s) = true ↔ a.toNat < b.toNat ∨ (a = b ∧ bytesBefore r s = true) := by
  show (decide (a < b) || (a == b && bytesBefore r s)) = true ↔ _
  simp [UInt8.lt_iff_toNat_lt]
theorem bytes_total : ∀ a b : List UInt8, bytesBefore a b = true ∨ a = b ∨ bytesBefore b a = true
  | [], [] => .inr (.inl rfl)
  | [], _ :: _ => .inl rfl
  | _ :: _, [] => .inr (.inr rfl)
  | a :: r, b :: s => by
    rw [bytes_cons, bytes_cons]
    rcases Nat.lt_trichotomy a.toNat b.toNat with h | h | h
    · exact .inl (.inl h)
    · have e : a = b := UInt8.toNat_inj.1 h
      subst e
      rcases bytes_total r s with k | k | k
      · exact .inl (.inr ⟨rfl, k⟩)
      · exact .inr (.inl (by rw [k]))
      · exact .inr (.inr (.inr ⟨rfl, k⟩))
    · exact .inr (.inr (.inl h))
theorem bytes_trans : ∀ {a b c : List UInt8}, bytesBefore a b = true → bytesBefore b c = true → bytesBefore a c = true
  | [], [], _, h, _ => by cases h
  | [], _ :: _, [], _, k => by cases k
  | [], _ :: _, _ :: _, _, _ => rfl
  | _ :: _, [], _, h, _ => by cases h
  | _ :: _, _ :: _, [], _, k => by cases k
  | a :: r, b :: s, c :: t, h, k => by
    rw [bytes_cons] at h k ⊢
    rcases h with h | ⟨h, h2⟩
    · rcases k with k | ⟨k, k2⟩
      · exact .inl (by omega)
      · exact .inl (by rw [← k]; exact h)
    · rcases k with k | ⟨k, k2⟩
      · exact .inl (by rw [h]; exact k)
      · exact .inr ⟨h.trans k, bytes_trans h2 k2⟩
theorem bytes_irrefl : ∀ a : List UInt8, bytesBefore a a = false
  | [] => rfl
  | a :: r => by
    have ih := bytes_irrefl r
    cases h : bytesBefore (a :: r) (a :: r) with
    | false => rfl
    | true =>
      rw [bytes_cons] at h
      rcases h with h | ⟨_, h⟩
      · omega
      · rw [ih] at h; cases h
theorem insF_sorted {f : DF} : ∀ {F : List DF}, F.Pairwise (fun f g => bytesBefore f.name g.name = true) → (∀ g ∈ F, g.name ≠ f.name) → (insF f F).Pairwise (fun f g => bytesBefore f.name g.name = true)
  | [], _, _ => by simp [insF]
  | y :: r, hp, hn => by
    obtain ⟨h1, h2⟩ := List.pairwise_cons.1 hp
    unfold insF
    split
    · rename_i hb
      refine List.pairwise_cons.2 ⟨fun g hg => ?_, hp⟩
      rcases List.mem_cons.1 hg with rfl | hg'
      · exact hb
      · exact bytes_trans hb (h1 g hg')
    · rename_i hb
      refine List.pairwise_cons.2 ⟨fun g hg => ?_, insF_sorted h2 fun g hg => hn g (by simp [hg])⟩
      rcases insF_mem.1 hg with rfl | hg'
      · rcases bytes_total y.name g.name with h | h | h
        · exact h
        · exact absurd h (hn y (by simp))
        · exact absurd h hb
      · exact h1 g hg'
theorem insF_pair {R : DF → DF → Prop} {f : DF} : ∀ {F : List DF}, F.Pairwise R → (∀ g ∈ F, R f g ∧ R g f) → (insF f F).Pairwise R
  | [], _, _ => by simp [insF]
  | y :: r, hp, hn => by
    obtain ⟨h1, h2⟩ := List.pairwise_cons.1 hp
    unfold insF
    split
    · exact List.pairwise_cons.2 ⟨fun g hg => (hn g hg).1, hp⟩
    · refine List.pairwise_cons.2 ⟨fun g hg => ?_, insF_pair h2 fun g hg => hn g (by simp [hg])⟩
      rcases insF_mem.1 hg with rfl | hg'
      · exact (hn y (by simp)).2
      · exact h1 g hg'
theorem none_name {F : List DF} {n : List UInt8} (h : fileOf F n = none) : ∀ g ∈ F, g.name ≠ n := fun g hg => by
  have := List.find?_eq_none.1 h g hg
  simpa using this
/-- A put gives a disk with a file more. -/
def putD (d : DS) (m : Nat) (f : DF) : DS := { d with map := some m, F := insF f d.F }
theorem Rep.put {W w' : World} {p : Nat} {d : DS} {f : DF} {en : Ending} (h : Rep W p d) (hfi : FileIn W f) (hnew : fileOf d.F f.name = none) (hb : ∀ g ∈ d.F, g.blk ≠ f.blk) (hr : ∀ g ∈ d.F, ∀ k, g.v.ownBlock = some k → f.v.ownBlock ≠ some k)
    (ht : (total d.F : Int) + (f.bytes.length : Int) ≤ d.used) (hp : Puts W p d f en w') : ∃ m, en = .returned (.tuple #[]) ∧ Rep w' p (putD d m f) ∧ Off (fun k => k = p ∨ d.map = some k) W w' ∧ (d.map = some m ∨ W.heap.size ≤ m) := by
  obtain ⟨he, m, hown, hbox, ho, hm⟩ := hp
  refine ⟨m, he, ?_, ho, hm⟩
  obtain ⟨a1, a2⟩ := h.apart
  have far : ∀ g : DF, FileIn W g → (∀ m, d.map = some m → m ≠ g.blk ∧ ∀ k, g.v.ownBlock = some k → k ≠ m) → FileIn w' g := fun g hg hgm => by
    have e1 : g.blk ≠ p := fun e => by
      have q1 := hg.box
      have q2 := h.box
      unfold Box at q1 q2
      rw [e, q2] at q1
      injection q1 with q1
      injection q1 with _ q1 _
      exact absurd q1 (by decide)
    have e2 := own_ne hg.row h.box (by decide)
    refine hg.off ho (fun hk => ?_) (fun k hk hk2 => ?_)
    · rcases hk with hk | hk
      · exact e1 hk
      · exact (hgm _ hk).1 rfl
    · rcases hk2 with hk2 | hk2
      · exact e2 k hk hk2
      · exact (hgm _ hk2).2 k hk rfl
  have mapno : ∀ m, d.map = some m → ∃ es clock, W.heap[m]? = some (.map es clock) := fun m hm => by
    rcases h.map with ⟨h1, _⟩ | ⟨m', h1, es, clock, hb, _⟩
    · rw [h1] at hm; cases hm
    · have : m' = m := by rw [h1] at hm; injection hm
      subst this
      exact ⟨es, clock, hb⟩
  have fm : ∀ g : DF, FileIn W g → ∀ m, d.map = some m → m ≠ g.blk ∧ ∀ k, g.v.ownBlock = some k → k ≠ m := fun g hg m hm => by
    obtain ⟨es, clock, hb⟩ := mapno m hm
    refine ⟨fun e => ?_, fun k hk e => ?_⟩
    · have h1 := hg.box
      unfold Box at h1
      rw [← e, hb] at h1
      cases h1
    · subst e
      rcases hg.row.2 with ⟨h1, _⟩ | ⟨g', cap, cur, h1, _, h3, _⟩
      · rw [h1] at hk; cases hk
      · rw [h1] at hk
        have : g' = k := by simpa [Value.ownBlock] using hk
        subst this
        rw [hb] at h3
        cases h3
  refine ⟨hbox, .inr ⟨m, rfl, ?_⟩, fun g hg => ?_, ?_, ?_, ?_, h.room, ⟨?_, h.used.2⟩, h.left⟩
  · show w'.ownsMap Try.prog 9 fileTok m (insF f d.F).length (mapD (insF f d.F))
    rw [insF_len]
    exact hown
  · rcases insF_mem.1 hg with rfl | hg'
    · exact far _ hfi (fm _ hfi)
    · exact far g (h.files g hg') (fm g (h.files g hg'))
  · exact insF_pair h.blks fun g hg => ⟨fun e => hb g hg e.symm, hb g hg⟩
  · exact insF_pair h.rows fun g hg => ⟨fun k hk hk2 => hr g hg k hk2 hk, hr g hg⟩
  · exact insF_sorted h.sorted (none_name hnew)
  · show (total (insF f d.F) : Int) ≤ d.used
    rw [total_ins]
    omega
def newF (n : List UInt8) (b : Nat) : DF := ⟨n, b, .slice none 0 0, [], 0⟩
theorem newF_in (w : World) (n : List UInt8) (hn : 1 ≤ n.length ∧ n.length ≤ 40) : FileIn (w.alloc (.cells #[.slice none 0 0, .int .i64 0] 69)) (newF n w.heap.size) :=
  ⟨Box.new _ _ _, World.ownsRow_nil _ _ _ _, Nat.zero_le _, hn⟩
theorem fileOf_mem {F : List DF} (hp : F.Pairwise (fun f g => bytesBefore f.name g.name = true)) {f : DF} (hf : f ∈ F) : fileOf F f.name = some f := by
  induction F with
  | nil => cases hf
  | cons x F ih =>
    obtain ⟨h1, h2⟩ := List.pairwise_cons.1 hp
    unfold fileOf
    rcases List.mem_cons.1 hf with rfl | hf'
    · simp
    · rw [List.find?_cons]
      have hne : (x.name == f.name) = false := by
        rw [beq_eq_false_iff_ne]
        intro e
        have := h1 f hf'
        rw [e, bytes_irrefl] at this
        cases this
      rw [hne]
      exact ih h2 hf'
end Go.Proofs.Ytpdimmkacjilgaa
